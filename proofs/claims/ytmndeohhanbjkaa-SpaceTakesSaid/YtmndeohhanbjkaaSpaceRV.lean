/-
  Contracts of package space's statements: the reference's Give.
-/
import Derived.Test.YtmndeohhanbjkaaSpaceRG
import Derived.Test.YtmndeohhanbjkaaSpaceMath6
import Derived.Test.YtmndeohhanbjkaaSpaceRT
namespace Go.Proofs.Ytmndeohhanbjkaa
open Go.RowKit Go.ChangeShapes Go.WideShapes Go.ChangeAt

/-- 'append(out, x...)' of pairs, the block told. -/
theorem wp_prs_appK {t e : TypeId} (ht : Try.prog.underlying t = some (.slice e)) (he : Two e) {ops : Array Oper} {rest : List Oper} {o : Oper} {a : Act} {Q : Exit → Act → World → Prop} (W : World) (hgd : o.guard = none) (s x : Operand)
    (ho : o.op = .call { callee := .builtin .append, args := #[s, x], argTypes := #[t, t] })
    (base : Nat) (v : Value) (l : List (Int × Int)) (hs : a.eval s = v) (hb : Prs e W base v l)
    (ad : Addr) (c : Nat) (ps : List (Int × Int)) (hx : a.eval x = .slice (some ad) ps.length c) (hcell : ∀ j u, (ps.flatMap PrV)[j]? = some u → W.cell? (ad.add j) = some u)
    (hbytes : l.length + ps.length ≤ 100000) (hbase : base ≤ W.heap.size)
    (h : ∀ v' w', Prs e w' base v' (l ++ ps) → W.grownBy w' v.ownBlock → (v'.ownBlock = v.ownBlock ∨ v'.ownBlock = some W.heap.size) → wpList Try.prog ops Q rest (a.put o.dst v') w') : wpList Try.prog ops Q (o :: rest) a W := by
  obtain ⟨i0, hi, hz0, hz1, hz2⟩ := info_parts he
  obtain ⟨v', w', hr, hown, hg, _, hob⟩ := run_append_own_at (P := Try.prog) W base t o.type e i0 (.agg #[.int .i64 0, .int .i64 0]) 2 16 ht hi hz0 hz1 hz2 rfl (by decide) v l.length _ hb ad ps.length c (ps.flatMap PrV)
    (flat_len PrV 2 (fun _ => rfl) ps) hcell (by
      intro u hu
      simp only [List.mem_flatMap] at hu
      obtain ⟨y, _, hy⟩ := hu
      simp [PrV] at hy
      rcases hy with rfl | rfl <;> rfl) (by unfold maxLen; omega) (by omega) hbase
  refine wpList_plain hgd fun K hK => ?_
  unfold Oper.wp execOp
  simp only [ho, resolve, invoke, builtin, Sem.run_bind, Sem.run_pure, Result.andThen_ok, List.map_toArray, List.map_cons, List.map_nil, hs, hx, hr]
  refine hK _ _ (h v' w' ?_ hg hob)
  unfold Prs
  rw [List.flatMap_append, List.length_append]
  exact hown

/-- The reference's loop: rows of runs ahead and behind, apart; the run itself in block g. -/
structure RvJ (w : World) (g : Nat) (va vb : Value) (A : List (Int × Int)) (q : Int × Int) (B : List (Int × Int)) (W : World) : Prop where
  pa : Prs 39 W (g + 1) va A
  pb : Prs 39 W (g + 1) vb B
  ap : ∀ i, vb.ownBlock = some i → va.ownBlock ≠ some i
  nb : B = [] → vb = .slice none 0 0
  bx : Box W g 39 #[.int .i64 q.1, .int .i64 q.2]
  bl : Below g w W
theorem Prs.own_blk {e : TypeId} {w : World} {base : Nat} {v : Value} {l : List (Int × Int)} (h : Prs e w base v l) : ∀ k, v.ownBlock = some k → base ≤ k ∧ k < w.heap.size := fun k hk => World.ownsRow.lt h k hk
theorem Prs.grown {e : TypeId} {w w' : World} {base : Nat} {v : Value} {l : List (Int × Int)} {r : Option Nat} (h : Prs e w base v l) (hg : w.grownBy w' r) (hn : ∀ k, v.ownBlock = some k → r ≠ some k) : Prs e w' base v l :=
  ownsRow_of h fun k hk hlt => hg.block k hlt (fun e => hn k hk e.symm)
theorem RvJ.keep {w : World} {g : Nat} {va vb : Value} {A B : List (Int × Int)} {q : Int × Int} {W W' : World} (h : RvJ w g va vb A q B W) (hb : Below W.heap.size W W') : RvJ w g va vb A q B W' :=
  ⟨h.pa.keep hb, h.pb.keep hb, h.ap, h.nb, h.bx.keep hb h.bx.lt, h.bl.trans (hb.mono (Nat.le_of_lt h.bx.lt))⟩
/-- One run more ahead: there is none behind. -/
theorem RvJ.ahead {w : World} {g : Nat} {va vb v' : Value} {A A' B : List (Int × Int)} {q : Int × Int} {W W' : World} (h : RvJ w g va vb A q B W) (hp : Prs 39 W' (g + 1) v' A') (hg : W.grownBy W' va.ownBlock) (ho : v'.ownBlock = va.ownBlock ∨ v'.ownBlock = some W.heap.size) : RvJ w g v' vb A' q B W' := by
  have hlt := h.bx.lt
  refine ⟨hp, h.pb.grown hg (fun k hk e => h.ap k hk e), fun i hi e => ?_, h.nb, h.bx.of (hg.block g hlt (fun e => by have := (h.pa.own_blk g e.symm).1; omega)), h.bl.grown hg (Nat.le_of_lt hlt) (fun k hk => by have := (h.pa.own_blk k hk).1; omega)⟩
  rcases ho with ho | ho
  · exact h.ap i hi (ho ▸ e)
  · rw [ho] at e
    injection e with e
    have := (h.pb.own_blk i hi).2
    omega
/-- One run more behind. -/
theorem RvJ.behind {w : World} {g : Nat} {va vb v' : Value} {A B B' : List (Int × Int)} {q : Int × Int} {W W' : World} (h : RvJ w g va vb A q B W) (hp : Prs 39 W' (g + 1) v' B') (hg : W.grownBy W' vb.ownBlock) (ho : v'.ownBlock = vb.ownBlock ∨ v'.ownBlock = some W.heap.size) (hne : B' ≠ []) : RvJ w g va v' A q B' W' := by
  have hlt := h.bx.lt
  refine ⟨h.pa.grown hg (fun k hk e => h.ap k e hk), hp, fun i hi e => ?_, fun e => absurd e hne, h.bx.of (hg.block g hlt (fun e => by have := (h.pb.own_blk g e.symm).1; omega)), h.bl.grown hg (Nat.le_of_lt hlt) (fun k hk => by have := (h.pb.own_blk k hk).1; omega)⟩
  rcases ho with ho | ho
  · exact h.ap i (ho ▸ hi) e
  · rw [ho] at hi
    injection hi with hi
    have := (h.pa.own_blk i e).2
    omega
/-- The run is another one. -/
theorem RvJ.turn {w : World} {g : Nat} {va vb : Value} {A B : List (Int × Int)} {q q' : Int × Int} {W W' : World} (h : RvJ w g va vb A q B W) (hb : Box W' g 39 #[.int .i64 q'.1, .int .i64 q'.2]) (hc : ∀ k, k ≠ g → W'.heap[k]? = W.heap[k]?) (hl : Below g w W') : RvJ w g va vb A q' B W' :=
  ⟨ownsRow_of h.pa fun k hk _ => hc k (by have := (h.pa.own_blk k hk).1; omega), ownsRow_of h.pb fun k hk _ => hc k (by have := (h.pb.own_blk k hk).1; omega), h.ap, h.nb, hb, hl⟩

/-- One run more: the loop's invariants behind it. -/
theorem rg_step {A B : List (Int × Int)} {q r0 x : Int × Int} {m : Int} (h : RgI A q B m r0) (hx0 : m ≤ x.1) (hx1 : 1 ≤ x.2) (hx2 : x.2 ≤ 1073741824 - x.1) :
    (x.1 + x.2 < q.1 → B = [] ∧ RgI (A ++ [x]) q [] (x.1 + x.2 + 1) r0) ∧ (x.1 + x.2 = q.1 → RgI A (x.1, x.2 + q.2) B (x.1 + x.2 + 1) r0) ∧
    (x.1 = q.1 + q.2 → B = [] ∧ RgI A (q.1, q.2 + x.2) [] (x.1 + x.2 + 1) r0) ∧ (q.1 + q.2 < x.1 → RgI A q (B ++ [x]) (x.1 + x.2 + 1) r0) := by
  have hm0 := h.m0
  have hr := h.a3
  unfold MayR at hr
  have h5 := h.h5
  refine ⟨fun c1 => ?_, fun c2 => ?_, fun c3 => ?_, fun c4 => ?_⟩
  · have hb := h.none hx0 (by omega)
    subst hb
    refine ⟨rfl, ⟨by omega, ?_, ?_, h.a3, rfl, ?_, (fun y hy => by cases hy), h5, fun p h1 h2 => ?_⟩⟩
    · rw [may_app, Bool.and_eq_true]
      have hl : lastEnd 0 A ≤ x.1 := last_le (by omega) (fun y hy => by have := h.h3 y hy; omega)
      refine ⟨h.a1, ?_⟩
      rw [mayF, Bool.and_eq_true, decide_eq_true_eq]
      exact ⟨by omega, rfl⟩
    · intro y hy
      rcases List.mem_append.1 hy with hy | hy
      · exact h.a2 y hy
      · rw [List.mem_singleton.1 hy]; omega
    · intro y hy
      rcases List.mem_append.1 hy with hy | hy
      · have := h.h3 y hy; omega
      · rw [List.mem_singleton.1 hy]; omega
    · rcases h.h6 p h1 h2 with h3 | h3
      · exact .inl h3
      · exact .inr (by omega)
  · refine ⟨by omega, h.a1, (fun y hy => by have := h.h3 y hy; show _ ≤ x.1; omega), ?_, ?_, (fun y hy => by have := h.h3 y hy; omega), (fun y hy => by have := h.h4 y hy; omega), ?_, fun p h1 h2 => ?_⟩
    · unfold MayR; simp only; omega
    · rw [show (x.1, x.2 + q.2).1 + (x.1, x.2 + q.2).2 + 1 = q.1 + q.2 + 1 by simp only; omega]; exact h.a4
    · simp only; omega
    · simp only at h1 h2
      by_cases hp : p < x.1 + x.2
      · exact .inr (by omega)
      · rcases h.h6 p (by omega) (by omega) with h3 | h3
        · exact .inl h3
        · exact .inr (by omega)
  · have hb := h.none hx0 (by omega)
    subst hb
    refine ⟨rfl, ⟨by omega, h.a1, h.a2, ?_, rfl, (fun y hy => by have := h.h3 y hy; omega), (fun y hy => by cases hy), ?_, fun p h1 h2 => ?_⟩⟩
    · unfold MayR; simp only; omega
    · simp only; omega
    · simp only at h1 h2
      by_cases hp : p < q.1 + q.2
      · rcases h.h6 p (by omega) (by omega) with h3 | h3
        · exact .inl h3
        · exact .inr (by omega)
      · exact .inr (by omega)
  · refine ⟨by omega, h.a1, h.a2, h.a3, ?_, (fun y hy => by have := h.h3 y hy; omega), ?_, h5, fun p h1 h2 => ?_⟩
    · rw [may_app, Bool.and_eq_true]
      have hl : lastEnd (q.1 + q.2 + 1) B ≤ x.1 := last_le (by omega) (fun y hy => by have := h.h4 y hy; omega)
      refine ⟨h.a4, ?_⟩
      rw [mayF, Bool.and_eq_true, decide_eq_true_eq]
      exact ⟨by omega, rfl⟩
    · intro y hy
      rcases List.mem_append.1 hy with hy | hy
      · have := h.h4 y hy; omega
      · rw [List.mem_singleton.1 hy]; omega
    · rcases h.h6 p h1 h2 with h3 | h3
      · exact .inl h3
      · exact .inr (by omega)
theorem rgS_1 {A B : List (Int × Int)} {q x : Int × Int} {t : List (Int × Int)} (c1 : x.1 + x.2 < q.1) : rgS A q B (x :: t) = rgS (A ++ [x]) q B t := by
  show (if _ then _ else _) = _
  rw [if_pos c1]
theorem rgS_2 {A B : List (Int × Int)} {q x : Int × Int} {t : List (Int × Int)} (c1 : ¬ x.1 + x.2 < q.1) (c2 : x.1 + x.2 = q.1) : rgS A q B (x :: t) = rgS A (x.1, x.2 + q.2) B t := by
  show (if _ then _ else _) = _
  rw [if_neg c1, if_pos c2]
theorem rgS_3 {A B : List (Int × Int)} {q x : Int × Int} {t : List (Int × Int)} (c1 : ¬ x.1 + x.2 < q.1) (c2 : ¬ x.1 + x.2 = q.1) (c3 : x.1 = q.1 + q.2) : rgS A q B (x :: t) = rgS A (q.1, q.2 + x.2) B t := by
  show (if _ then _ else _) = _
  rw [if_neg c1, if_neg c2, if_pos c3]
theorem rgS_4 {A B : List (Int × Int)} {q x : Int × Int} {t : List (Int × Int)} (c1 : ¬ x.1 + x.2 < q.1) (c2 : ¬ x.1 + x.2 = q.1) (c3 : ¬ x.1 = q.1 + q.2) (c4 : q.1 + q.2 < x.1) : rgS A q B (x :: t) = rgS A q (B ++ [x]) t := by
  show (if _ then _ else _) = _
  rw [if_neg c1, if_neg c2, if_neg c3, if_pos c4]
theorem rgS_5 {A B : List (Int × Int)} {q x : Int × Int} {t : List (Int × Int)} (c1 : ¬ x.1 + x.2 < q.1) (c2 : ¬ x.1 + x.2 = q.1) (c3 : ¬ x.1 = q.1 + q.2) (c4 : ¬ q.1 + q.2 < x.1) : rgS A q B (x :: t) = none := by
  show (if _ then _ else _) = _
  rw [if_neg c1, if_neg c2, if_neg c3, if_neg c4]
end Go.Proofs.Ytmndeohhanbjkaa
