/-
  Texts put together: Rw, TcG, TcH.
-/
import Derived.Test.YtbeldjijnjgbfaaMg10
import Derived.Maps.AppendAt
import Derived.Test.YtbeldjijnjgbfaaTcF
namespace Go.Proofs.Ytbeldjijnjgbfaa
open Go Go.RowKit Go.ChangeShapes Go.WideShapes Go.ChangeAt

/-- A kind of structs: the type, its cells, how one lies in them. -/
structure RwK (α : Type) where
  e : TypeId
  n : Nat
  f : α → List Value
structure RwOk {α : Type} (K : RwK α) : Prop where
  info : ∃ z b, (Try.prog.info? K.e).map (fun i => (i.zero, i.size, i.bytes)) = some (some z, K.n, b) ∧ z.cells.size = K.n ∧ b ≤ 1000
  pos : 0 < K.n
  len : ∀ x, (K.f x).length = K.n
  one : ∀ x, ∀ u ∈ K.f x, u.oneCell' = true
/-- The value v is a slice of the call's own that holds the structs l. -/
def Rw {α : Type} (K : RwK α) (w : World) (base : Nat) (v : Value) (l : List α) : Prop := w.ownsRow base K.e K.n v l.length (l.flatMap K.f)
section
variable {α : Type} {K : RwK α} {w w' : World} {base : Nat} {v : Value} {l : List α}
theorem Rw.nil (w : World) (base : Nat) : Rw K w base (.slice none 0 0) [] := World.ownsRow_nil _ _ _ _
theorem Rw.own_block (h : Rw K w base v l) : ∀ k, v.ownBlock = some k → base ≤ k := fun k hk => (World.ownsRow.lt h k hk).1
theorem Rw.lt (h : Rw K w base v l) : ∀ k, v.ownBlock = some k → k < w.heap.size := fun k hk => (World.ownsRow.lt h k hk).2
theorem Rw.keep (h : Rw K w base v l) (hb : Below w.heap.size w w') : Rw K w' base v l := ownsRow_of h fun k _ hlt => hb.block k hlt
theorem Rw.chg {S : List Nat} (h : Rw K w base v l) (hc : Chg S w w') (hn : ∀ k, v.ownBlock = some k → k ∉ S) : Rw K w' base v l := ownsRow_of h fun k hk hlt => hc.block k hlt (hn k hk)
theorem Rw.low {b : Nat} (h : Rw K w base v l) (hb : b ≤ base) : Rw K w b v l := by
  refine ⟨h.1, ?_⟩
  rcases h.2 with h | ⟨g, cap, cur, h1, h2, h3⟩
  · exact .inl h
  · exact .inr ⟨g, cap, cur, h1, Nat.le_trans hb h2, h3⟩
theorem Rw.high {b : Nat} (h : Rw K w base v l) (hb : ∀ k, v.ownBlock = some k → b ≤ k) : Rw K w b v l := by
  refine ⟨h.1, ?_⟩
  rcases h.2 with h | ⟨g, cap, cur, rfl, h2, h3⟩
  · exact .inl h
  · exact .inr ⟨g, cap, cur, rfl, hb g rfl, h3⟩
theorem Rw.form (h : Rw K w base v l) : ∃ a cap, v = .slice a l.length cap ∧ l.length ≤ cap ∧ cap ≤ maxLen := by
  rcases h.2 with ⟨rfl, h0⟩ | ⟨g, cap, cur, rfl, hg, hh, h1, h2, _⟩
  · exact ⟨none, 0, by rw [h0], by omega, Nat.zero_le _⟩
  · exact ⟨_, cap, rfl, h1, h2⟩
theorem Rw.at (hK : RwOk K) (h : Rw K w base v l) (i : Nat) (x : α) (hx : l[i]? = some x) : ∃ g cap, v = .slice (some ⟨g, 0, none⟩) l.length cap ∧ g < w.heap.size ∧ ∀ j u, (K.f x)[j]? = some u → w.cell? ⟨g, i * K.n + j, none⟩ = some u := by
  have h' := h
  have hi : i < l.length := (List.getElem?_eq_some_iff.1 hx).1
  rcases h.2 with ⟨rfl, h0⟩ | ⟨g, cap, cur, rfl, hg, hh, _⟩
  · omega
  · refine ⟨g, cap, rfl, lt_of_block hh, fun j u hu => ?_⟩
    have hj : j < K.n := by have := (List.getElem?_eq_some_iff.1 hu).1; rw [hK.len] at this; exact this
    have h0 := flat_get K.f K.n hK.len l i x hx j hj
    have hlt : i * K.n + j < l.length * K.n := by
      have h1 : (i + 1) * K.n ≤ l.length * K.n := Nat.mul_le_mul_right _ hi
      rw [Nat.succ_mul] at h1
      omega
    rw [World.ownsRow.cellAt h' (i * K.n + j) hlt, h0]
    exact hu
theorem Rw.take (hK : RwOk K) (h : Rw K w base v l) (g cap : Nat) (hv : v = .slice (some ⟨g, 0, none⟩) l.length cap) (m : Nat) (hm : m ≤ l.length) : Rw K w base (.slice (some ⟨g, 0, none⟩) m cap) (l.take m) := by
  have hlt : (l.take m).length = m := by rw [List.length_take]; omega
  have hfl : ∀ l : List α, (l.flatMap K.f).length = l.length * K.n := flat_len K.f K.n hK.len
  have hpre : (l.take m).flatMap K.f = (l.flatMap K.f).take (m * K.n) := by
    have e : l.flatMap K.f = (l.take m).flatMap K.f ++ (l.drop m).flatMap K.f := by rw [← List.flatMap_append, List.take_append_drop]
    rw [e, List.take_append_of_le_length (by rw [hfl, hlt]; exact Nat.le_refl _), List.take_of_length_le (l := (l.take m).flatMap K.f) (by rw [hfl, hlt]; exact Nat.le_refl _)]
  rcases h.2 with ⟨rfl, h0⟩ | ⟨g2, cap2, cur, e, hg, hh, h1, h2, h3, h4⟩
  · cases hv
  · rw [hv] at e
    injection e with e1 _ e3
    injection e1 with e1
    injection e1 with e1 _ _
    subst e1 e3
    refine ⟨by rw [hfl], .inr ⟨g, cap, cur, by rw [hlt], hg, hh, by omega, h2, h3, ?_⟩⟩
    rw [hpre, hlt, ← h4, List.take_take, Nat.min_eq_left (Nat.mul_le_mul_right _ hm)]
theorem Rw.grown {r : Option Nat} (h : Rw K w base v l) (hg : w.grownBy w' r) (hn : ∀ k, v.ownBlock = some k → r ≠ some k) : Rw K w' base v l :=
  ownsRow_of h fun k hk hlt => hg.block k hlt (fun e => hn k hk e.symm)
end
theorem wp_rw_push {α : Type} {K : RwK α} (hKo : RwOk K) {t : TypeId} (ht : Try.prog.underlying t = some (.slice K.e)) {ops : Array Oper} {rest : List Oper} {o : Oper} {a : Act} {Q : Exit → Act → World → Prop} (W : World) (hgd : o.guard = none) (s x : Operand)
    (ho : o.op = .call { callee := .builtin .append, args := #[s, x], argTypes := #[t, t] })
    (base : Nat) (v : Value) (l : List α) (hs : a.eval s = v) (hb : Rw K W base v l)
    (g c : Nat) (p : α) (hx : a.eval x = .slice (some ⟨g, 0, none⟩) 1 c) (hcell : ∀ j u, (K.f p)[j]? = some u → W.cell? ⟨g, j, none⟩ = some u)
    (hbytes : l.length + 1 ≤ 200000) (hbase : base ≤ W.heap.size)
    (h : ∀ v' w', Rw K w' base v' (l ++ [p]) → W.grownBy w' v.ownBlock → (v'.ownBlock = v.ownBlock ∨ v'.ownBlock = some W.heap.size) → wpList Try.prog ops Q rest (a.put o.dst v') w') : wpList Try.prog ops Q (o :: rest) a W := by
  obtain ⟨z, b, hi0, hzc, hb0⟩ := hKo.info
  obtain ⟨i0, hi, hz0, hz1, hz2⟩ := info_parts hi0
  obtain ⟨v', w', hr, hown, hg, _, hob⟩ := run_append_own_at (P := Try.prog) W base t o.type K.e i0 z K.n b ht hi hz0 hz1 hz2 hzc hKo.pos v l.length _ hb ⟨g, 0, none⟩ 1 c (K.f p) (by rw [hKo.len]; omega)
    (fun j u hj => by
      rw [add_plain, Nat.zero_add]
      exact hcell j u hj) (hKo.one p) (by unfold maxLen; omega) (by have : (l.length + 1) * b ≤ 200000 * 1000 := Nat.mul_le_mul hbytes hb0; omega) hbase
  refine wpList_plain hgd fun K2 hK2 => ?_
  unfold Oper.wp execOp
  simp only [ho, resolve, invoke, builtin, Sem.run_bind, Sem.run_pure, Result.andThen_ok, List.map_toArray, List.map_cons, List.map_nil, hs, hx, hr]
  refine hK2 _ _ (h v' w' ?_ hg hob)
  unfold Rw
  rw [List.flatMap_append, List.length_append, List.flatMap_cons, List.flatMap_nil, List.append_nil]
  exact hown
end Go.Proofs.Ytbeldjijnjgbfaa

namespace Go.Proofs.Ytbeldjijnjgbfaa
open Go Go.RowKit Go.ChangeShapes Go.WideShapes Go.ChangeAt

/-- A node as three cells. -/
structure NdV where
  leaf : Bool
  ka : Option Addr
  kn : Nat
  kc : Nat
  va : Option Addr
  vn : Nat
  vc : Nat
def NdV.k (x : NdV) : Value := .slice x.ka x.kn x.kc
def NdV.v (x : NdV) : Value := .slice x.va x.vn x.vc
def NdV.l (x : NdV) : List Value := [.bool x.leaf, .slice x.ka x.kn x.kc, .slice x.va x.vn x.vc]
def NdV.val (x : NdV) : Value := .agg #[.bool x.leaf, .slice x.ka x.kn x.kc, .slice x.va x.vn x.vc]
abbrev StV := NdV × Nat
def kNd : RwK NdV := ⟨51, 3, NdV.l⟩
def kSt : RwK StV := ⟨91, 4, fun s => s.1.l ++ [.int .i64 s.2]⟩
def kPr : RwK Ent := ⟨56, 2, fun x => [.string x.1, .string x.2]⟩
theorem kNd_ok : RwOk kNd := by
  refine ⟨⟨.agg #[.bool false, .slice none 0 0, .slice none 0 0], 56, by kernel_rfl, rfl, by decide⟩, by decide, fun _ => rfl, fun x u hu => ?_⟩
  simp only [kNd, NdV.l, List.mem_cons, List.not_mem_nil, or_false] at hu
  rcases hu with rfl | rfl | rfl <;> rfl
theorem kSt_ok : RwOk kSt := by
  refine ⟨⟨.agg #[.bool false, .slice none 0 0, .slice none 0 0, .int .i64 0], 64, by kernel_rfl, rfl, by decide⟩, by decide, fun _ => rfl, fun x u hu => ?_⟩
  simp only [kSt, NdV.l, List.cons_append, List.nil_append, List.mem_cons, List.not_mem_nil, or_false] at hu
  rcases hu with rfl | rfl | rfl | rfl <;> rfl
theorem kPr_ok : RwOk kPr := by
  refine ⟨⟨.agg #[.string ⟨#[]⟩, .string ⟨#[]⟩], 32, by kernel_rfl, rfl, by decide⟩, by decide, fun _ => rfl, fun x u hu => ?_⟩
  simp only [kPr, List.mem_cons, List.not_mem_nil, or_false] at hu
  rcases hu with rfl | rfl <;> rfl

/-- The node x is d; its rows lie in blocks of which Z holds. -/
structure NdZ (Z : Nat → Prop) (w : World) (x : NdV) (d : NodeD) : Prop where
  leaf : x.leaf = d.leaf
  kn : x.kn = d.keys.length
  vn : x.vn = d.vals.length
  kr : Ks w 0 x.k d.keys
  vr : Ks w 0 x.v d.vals
  kz : ∀ k, x.k.ownBlock = some k → Z k
  vz : ∀ k, x.v.ownBlock = some k → Z k
section
variable {Z Z' : Nat → Prop} {w w' : World} {x : NdV} {d : NodeD} {F F' S : List Nat}
theorem NdZ.mono (h : NdZ Z w x d) (hz : ∀ k, k < w.heap.size → Z k → Z' k) : NdZ Z' w x d := ⟨h.leaf, h.kn, h.vn, h.kr, h.vr, fun k hk => hz k (h.kr.lt k hk) (h.kz k hk), fun k hk => hz k (h.vr.lt k hk) (h.vz k hk)⟩
theorem NdZ.keep (h : NdZ Z w x d) (hb : Below w.heap.size w w') : NdZ Z w' x d := ⟨h.leaf, h.kn, h.vn, h.kr.keep hb, h.vr.keep hb, h.kz, h.vz⟩
theorem NdZ.chg (h : NdZ Z w x d) (hc : Chg S w w') (hs : ∀ k, Z k → k ∉ S) : NdZ Z w' x d := ⟨h.leaf, h.kn, h.vn, h.kr.chg hc (fun k hk => hs k (h.kz k hk)), h.vr.chg hc (fun k hk => hs k (h.vz k hk)), h.kz, h.vz⟩
theorem NdZ.tod (h : NdZ (· ∉ F) w x d) (hc : Chg F w w') (hn : ∀ k ∈ F', k ∈ F ∨ w.heap.size ≤ k) : NdZ (· ∉ F') w' x d := by
  have h1 := h.chg hc (fun k hk => hk)
  exact ⟨h.leaf, h.kn, h.vn, h1.kr, h1.vr, fun k hk hm => by rcases hn k hm with h2 | h2; exact h.kz k hk h2; have := h.kr.lt k hk; omega, fun k hk hm => by rcases hn k hm with h2 | h2; exact h.vz k hk h2; have := h.vr.lt k hk; omega⟩
theorem NdZ.nodeIn (h : NdZ Z w x d) (hk : d.keys.length ≤ 100000) (hv : d.vals.length ≤ 100000) : NodeIn w x.ka x.va d := by
  obtain ⟨a, c, e, s⟩ := ks_form2 h.kr
  obtain ⟨a2, c2, e2, s2⟩ := ks_form2 h.vr
  unfold NdV.k at e
  unfold NdV.v at e2
  injection e with e
  injection e2 with e2
  exact ⟨by rw [e]; exact s, by rw [e2]; exact s2, hk, hv⟩
theorem NdZ.val (h : NdZ Z w x d) : x.val = nodeV x.ka x.kc x.va x.vc d := by
  unfold NdV.val nodeV
  rw [h.leaf, h.kn, h.vn]
theorem NdZ.caps (h : NdZ Z w x d) : d.keys.length ≤ x.kc ∧ d.vals.length ≤ x.vc := by
  obtain ⟨a, c, e, _, h1, _⟩ := ks_cap h.kr
  obtain ⟨a2, c2, e2, _, h2, _⟩ := ks_cap h.vr
  unfold NdV.k at e
  unfold NdV.v at e2
  injection e with _ _ e
  injection e2 with _ _ e2
  omega
/-- A node of a call's own. -/
theorem NodeOwn.ndz {v : Value} {B : Nat} (h : NodeOwn w B v d) : ∃ x : NdV, v = x.val ∧ NdZ (B ≤ ·) w x d := by
  obtain ⟨kv, vv, rfl, h1, h2⟩ := h
  obtain ⟨a, c, rfl, _⟩ := ks_form2 h1
  obtain ⟨a2, c2, rfl, _⟩ := ks_form2 h2
  exact ⟨⟨d.leaf, a, d.keys.length, c, a2, d.vals.length, c2⟩, rfl, rfl, rfl, rfl, h1.low (Nat.zero_le _), h2.low (Nat.zero_le _), h1.own_block, h2.own_block⟩
theorem NdZ.own {B : Nat} (h : NdZ (B ≤ ·) w x d) : NodeOwn w B x.val d := by
  have high : ∀ {v : Value} {l : List ByteArray}, Ks w 0 v l → (∀ k, v.ownBlock = some k → B ≤ k) → Ks w B v l := by
    intro v l hk hb
    refine ⟨hk.1, ?_⟩
    rcases hk.2 with h | ⟨g, cap, cur, rfl, h2, h3⟩
    · exact .inl h
    · exact .inr ⟨g, cap, cur, rfl, hb g rfl, h3⟩
  exact ⟨x.k, x.v, by unfold NdV.val NdV.k NdV.v; rw [h.leaf], high h.kr h.kz, high h.vr h.vz⟩
end

/-- The value v is a slice of steps l. -/
structure StZ (Z : Nat → Prop) (w : World) (v : Value) (l : List StepD) : Prop where
  ex : ∃ r : List StV, Rw kSt w 0 v r ∧ r.length = l.length ∧ ∀ (i : Nat) (x : StV) (s : StepD), r[i]? = some x → l[i]? = some s → NdZ Z w x.1 s.1 ∧ x.2 = s.2
  bz : ∀ k, v.ownBlock = some k → Z k
/-- .. of nodes. -/
structure NsZ (Z : Nat → Prop) (w : World) (v : Value) (l : List NodeD) : Prop where
  ex : ∃ r : List NdV, Rw kNd w 0 v r ∧ r.length = l.length ∧ ∀ (i : Nat) (x : NdV) (s : NodeD), r[i]? = some x → l[i]? = some s → NdZ Z w x s
  bz : ∀ k, v.ownBlock = some k → Z k
/-- .. of pairs. -/
structure PrZ (Z : Nat → Prop) (w : World) (v : Value) (l : List Ent) : Prop where
  row : Rw kPr w 0 v l
  bz : ∀ k, v.ownBlock = some k → Z k
section
variable {Z Z' : Nat → Prop} {w w' : World} {v : Value} {F F' S : List Nat}
theorem StZ.keep {l : List StepD} (h : StZ Z w v l) (hb : Below w.heap.size w w') : StZ Z w' v l := by
  obtain ⟨⟨r, h1, h2, h3⟩, h4⟩ := h
  exact ⟨⟨r, h1.keep hb, h2, fun i x s hx hs => ⟨(h3 i x s hx hs).1.keep hb, (h3 i x s hx hs).2⟩⟩, h4⟩
theorem StZ.tod {l : List StepD} (h : StZ (· ∉ F) w v l) (hc : Chg F w w') (hn : ∀ k ∈ F', k ∈ F ∨ w.heap.size ≤ k) : StZ (· ∉ F') w' v l := by
  obtain ⟨⟨r, h1, h2, h3⟩, h4⟩ := h
  exact ⟨⟨r, h1.chg hc h4, h2, fun i x s hx hs => ⟨(h3 i x s hx hs).1.tod hc hn, (h3 i x s hx hs).2⟩⟩, fun k hk hm => by rcases hn k hm with h5 | h5; exact h4 k hk h5; have := h1.lt k hk; omega⟩
theorem StZ.mono {l : List StepD} (h : StZ Z w v l) (hz : ∀ k, k < w.heap.size → Z k → Z' k) : StZ Z' w v l := by
  obtain ⟨⟨r, h1, h2, h3⟩, h4⟩ := h
  exact ⟨⟨r, h1, h2, fun i x s hx hs => ⟨(h3 i x s hx hs).1.mono hz, (h3 i x s hx hs).2⟩⟩, fun k hk => hz k (h1.lt k hk) (h4 k hk)⟩
theorem NsZ.keep {l : List NodeD} (h : NsZ Z w v l) (hb : Below w.heap.size w w') : NsZ Z w' v l := by
  obtain ⟨⟨r, h1, h2, h3⟩, h4⟩ := h
  exact ⟨⟨r, h1.keep hb, h2, fun i x s hx hs => (h3 i x s hx hs).keep hb⟩, h4⟩
theorem NsZ.tod {l : List NodeD} (h : NsZ (· ∉ F) w v l) (hc : Chg F w w') (hn : ∀ k ∈ F', k ∈ F ∨ w.heap.size ≤ k) : NsZ (· ∉ F') w' v l := by
  obtain ⟨⟨r, h1, h2, h3⟩, h4⟩ := h
  exact ⟨⟨r, h1.chg hc h4, h2, fun i x s hx hs => (h3 i x s hx hs).tod hc hn⟩, fun k hk hm => by rcases hn k hm with h5 | h5; exact h4 k hk h5; have := h1.lt k hk; omega⟩
theorem NsZ.mono {l : List NodeD} (h : NsZ Z w v l) (hz : ∀ k, k < w.heap.size → Z k → Z' k) : NsZ Z' w v l := by
  obtain ⟨⟨r, h1, h2, h3⟩, h4⟩ := h
  exact ⟨⟨r, h1, h2, fun i x s hx hs => (h3 i x s hx hs).mono hz⟩, fun k hk => hz k (h1.lt k hk) (h4 k hk)⟩
theorem PrZ.keep {l : List Ent} (h : PrZ Z w v l) (hb : Below w.heap.size w w') : PrZ Z w' v l := ⟨h.row.keep hb, h.bz⟩
theorem PrZ.tod {l : List Ent} (h : PrZ (· ∉ F) w v l) (hc : Chg F w w') (hn : ∀ k ∈ F', k ∈ F ∨ w.heap.size ≤ k) : PrZ (· ∉ F') w' v l :=
  ⟨h.row.chg hc h.bz, fun k hk hm => by rcases hn k hm with h5 | h5; exact h.bz k hk h5; have := h.row.lt k hk; omega⟩
theorem PrZ.mono {l : List Ent} (h : PrZ Z w v l) (hz : ∀ k, k < w.heap.size → Z k → Z' k) : PrZ Z' w v l := ⟨h.row, fun k hk => hz k (h.row.lt k hk) (h.bz k hk)⟩
end
end Go.Proofs.Ytbeldjijnjgbfaa

namespace Go.Proofs.Ytbeldjijnjgbfaa
open Go Go.RowKit Go.ChangeShapes Go.WideShapes Go.ChangeAt

theorem load_h {S : StD} {ref : ByteArray} {h : Nat} (h1 : (loadN S ref h).2 = 0) : h ≤ 20 := by
  rcases Nat.lt_or_ge 20 h with h2 | h2
  · rw [load_far h2] at h1; cases h1
  · exact h2
theorem load_in {S : StD} {ref : ByteArray} {h : Nat} (h1 : (loadN S ref h).2 = 0) (h2 : (loadN S ref h).1.leaf = false) : 0 < (loadN S ref h).1.keys.length ∧ (loadN S ref h).1.keys.length = (loadN S ref h).1.vals.length := by
  by_cases hh : 20 < h
  · rw [load_far hh] at h1; cases h1
  · by_cases h3 : (getS S ref).2 = 0
    · by_cases h4 : (decP (getS S ref).1).2 ≠ 0 ∨ ((decP (getS S ref).1).1.leaf = false ∧ (decP (getS S ref).1).1.keys = [])
      · rw [load_form hh h3 h4] at h1; cases h1
      · by_cases h5 : (decP (getS S ref).1).1.leaf = true
        · rw [load_leaf hh h3 h4 h5] at h2
          rw [h5] at h2; cases h2
        · rw [load_inner hh h3 h4 h5]
          have h6 : (decP (getS S ref).1).2 = 0 := Classical.byContradiction fun h => h4 (.inl h)
          have h7 : (decP (getS S ref).1).1.keys ≠ [] := fun h => h4 (.inr ⟨by simpa using h5, h⟩)
          obtain ⟨e, h8, _⟩ := dec_ok h6
          have hM := may_bounds (may_chk h8)
          rw [← e] at hM
          refine ⟨?_, ?_⟩
          · show 0 < (List.set _ _ _).length
            rw [List.length_set]; exact List.length_pos_iff.2 h7
          · show (List.set _ _ _).length = _
            rw [List.length_set]; exact hM.eq
    · rw [load_err hh h3] at h1; exact absurd h1 h3
theorem find_lt (d : NodeD) (key : ByteArray) (h1 : 0 < d.keys.length) (h2 : d.keys.length = d.vals.length) : (findD d key).1 < d.vals.length := by
  unfold findD
  have hcl : cntK d.keys key ≤ d.keys.length := (List.takeWhile_prefix _).length_le
  split
  · split
    · rename_i h
      unfold isK at h
      have := of_decide_eq_true h
      have := (List.getElem?_eq_some_iff.1 this).1
      show cntK d.keys key < _
      omega
    · show cntK d.keys key - 1 < _
      omega
  · show 0 < _
    omega
theorem down_stop {S : StD} {key : ByteArray} {f : Nat} {l : List StepD} {ref : ByteArray} (h : (loadN S ref (l.length + 1)).2 ≠ 0 ∨ (loadN S ref (l.length + 1)).1.leaf = true) : downN S key (f + 1) l ref = (l, (loadN S ref (l.length + 1)).1, (loadN S ref (l.length + 1)).2) := by rw [downN, if_pos h]
theorem down_go {S : StD} {key : ByteArray} {f : Nat} {l : List StepD} {ref : ByteArray} (h : ¬ ((loadN S ref (l.length + 1)).2 ≠ 0 ∨ (loadN S ref (l.length + 1)).1.leaf = true)) :
    downN S key (f + 1) l ref = downN S key f (l ++ [((loadN S ref (l.length + 1)).1, (findD (loadN S ref (l.length + 1)).1 key).1)]) ((loadN S ref (l.length + 1)).1.vals.getD (findD (loadN S ref (l.length + 1)).1 key).1 noT) := by rw [downN, if_neg h]
theorem downT_nil {S : StD} {root key : ByteArray} (h : root.size = 0) : downT S root key = ([], ⟨true, [], []⟩, 0) := if_pos h
theorem downT_some {S : StD} {root key : ByteArray} (h : ¬ root.size = 0) : downT S root key = downN S key 21 [] root := if_neg h
/-- What down answers. -/
def DownTo (q : List StepD × NodeD × Int) (w : World) (e : Ending) (w' : World) : Prop :=
  ∃ sv nv, e = .returned (.tuple #[sv, nv, .int .i64 q.2.2]) ∧ StZ (w.heap.size ≤ ·) w' sv q.1 ∧ NodeOwn w' w.heap.size nv q.2.1 ∧ Below w.heap.size w w'
/-- The steps so far: their row, and their nodes beside it. -/
structure Abv (B : Nat) (w : World) (v : Value) (l : List StepD) : Prop where
  ex : ∃ r : List StV, Rw kSt w B v r ∧ r.length = l.length ∧ ∀ (i : Nat) (x : StV) (s : StepD), r[i]? = some x → l[i]? = some s → NdZ (fun k => B ≤ k ∧ v.ownBlock ≠ some k) w x.1 s.1 ∧ x.2 = s.2
theorem Abv.nil (B : Nat) (w : World) : Abv B w (.slice none 0 0) [] := ⟨⟨[], Rw.nil _ _, rfl, fun i x s hx _ => by simp at hx⟩⟩
theorem Abv.keep {B : Nat} {w w' : World} {v : Value} {l : List StepD} (h : Abv B w v l) (hb : Below w.heap.size w w') : Abv B w' v l := by
  obtain ⟨r, h1, h2, h3⟩ := h.ex
  exact ⟨⟨r, h1.keep hb, h2, fun i x s hx hs => ⟨(h3 i x s hx hs).1.keep hb, (h3 i x s hx hs).2⟩⟩⟩
theorem Abv.st {B : Nat} {w : World} {v : Value} {l : List StepD} (h : Abv B w v l) : StZ (B ≤ ·) w v l := by
  obtain ⟨r, h1, h2, h3⟩ := h.ex
  exact ⟨⟨r, h1.low (Nat.zero_le _), h2, fun i x s hx hs => ⟨(h3 i x s hx hs).1.mono (fun k _ hk => hk.1), (h3 i x s hx hs).2⟩⟩, h1.own_block⟩
theorem Abv.chg {B : Nat} {w w' : World} {v : Value} {l : List StepD} {S : List Nat} (h : Abv B w v l) (hc : Chg S w w') (hs : ∀ k ∈ S, k < B) : Abv B w' v l := by
  obtain ⟨r, h1, h2, h3⟩ := h.ex
  exact ⟨⟨r, h1.chg hc (fun k hk hm => by have := h1.own_block k hk; have := hs k hm; omega), h2, fun i x s hx hs2 => ⟨(h3 i x s hx hs2).1.chg hc (fun k hk hm => by have := hk.1; have := hs k hm; omega), (h3 i x s hx hs2).2⟩⟩⟩
theorem Abv.form {B : Nat} {w : World} {v : Value} {l : List StepD} (h : Abv B w v l) : ∃ a c, v = .slice a l.length c := by
  obtain ⟨r, h1, h2, _⟩ := h.ex
  obtain ⟨a, c, e, _⟩ := h1.form
  exact ⟨a, c, by rw [e, h2]⟩
def lenV : Value → Nat
  | .slice _ n _ => n
  | _ => 0
end Go.Proofs.Ytbeldjijnjgbfaa
