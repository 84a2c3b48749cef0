/-
  Texts put together: Sched3, SeA.
-/
import Derived.Test.YtopinlnjdgedeaaDoorMg13
import Derived.Test.YtopinlnjdgedeaaDoorMg2
import Derived.Test.YtopinlnjdgedeaaDoorMg11
namespace Go.Proofs.YtopinlnjdgedeaaDoor
open Go

/-- A tree of schedules. -/
inductive Sch where
  | nil
  | quiet (i : Nat) (r : Sch)
  | make (i : Nat) (r : Sch)
  | two (i j : Nat) (r q : Sch)
def Sch.depth : Sch → Nat
  | .nil => 0
  | .quiet _ r => r.depth + 1
  | .make _ r => r.depth + 1
  | .two _ _ r _ => r.depth + 1

section
variable {P : Program} {ops : Array Oper} {Q : Exit → Act → World → Prop}

def wpTr (P : Program) (ops : Array Oper) (Q : Exit → Act → World → Prop) (Lq : Act → World → Prop) : Sch → (World → Prop) → Act → World → Prop
  | .nil, _, a, w => Lq a w
  | .quiet i r, S, a, w => ∃ o a1, ops[i]? = some o ∧ (∀ W, S W → if Region.wanted o (yielded ops a.tmps) then o.still P a W (fun a' => a' = a1) else a.put o.dst undef = a1) ∧ wpTr P ops Q Lq r S a1 w
  | .make i r, S, a, w => wpOp P ops (Calm Q) i (fun a' w' => ∃ S' : World → Prop, (∀ W, S' W → S W) ∧ S' w' ∧ wpTr P ops Q Lq r S' a' w') a w
  | .two i j r q, S, a, w => wpOp P ops (Calm Q) i (fun a' w' => ∃ S' : World → Prop, (∀ W, S' W → S W) ∧ S' w' ∧ wpTr P ops Q Lq r S' a' w') a w ∧ wpOp P ops (Calm Q) j (fun a' w' => ∃ S' : World → Prop, (∀ W, S' W → S W) ∧ S' w' ∧ wpTr P ops Q Lq q S' a' w') a w
def trB (ops : Array Oper) (g n : Nat) : Sch → Array Bool → Bool
  | .nil, listed => Region.seqB .any ops g n listed
  | .quiet i r, listed => (Region.ready .any ops listed).contains i && Region.free .any ops listed i && decide (i < n) && trB ops g n r (listed.setIfInBounds i true)
  | .make i r, listed => decide (Region.ready .any ops listed = [i]) && decide (i < n) && trB ops g n r (listed.setIfInBounds i true)
  | .two i j r q, listed => decide (Region.ready .any ops listed = [i, j]) && decide (i < n ∧ j < n ∧ q.depth = r.depth) && trB ops g n r (listed.setIfInBounds i true) && trB ops g n q (listed.setIfInBounds j true)
def treeB (ops : Array Oper) (n : Nat) (sch : Sch) : Bool :=
  Region.noSelect ops && decide (n < ops.size) && Region.sinkB .any ops n && Region.chainB .any ops n && decide (sch.depth = n) && trB ops (ops.size - n) n sch (Array.replicate ops.size false)

theorem wpX_of_tr {n g : Nat} {Lq : Act → World → Prop} (hsel : Region.noSelect ops = true) (hs : Region.sinkB .any ops n = true) (hc : Region.chainB .any ops n = true) (hn : n < ops.size) :
    ∀ (sch : Sch) (S : World → Prop) (listed : Array Bool) (a : Act) (w : World), HeadInv .any ops n listed → S w → trB ops g n sch listed = true → wpTr P ops Q Lq sch S a w →
    wpX P ops Q n (fun listed' a' w' => Region.seqB .any ops g n listed' = true ∧ Lq a' w') sch.depth S listed a w
  | .nil, _, listed, a, w, _, _, hB, h => ⟨hB, h⟩
  | .quiet i r, S, listed, a, w, inv, hS, hB, h => by
    rw [trB, Bool.and_eq_true, Bool.and_eq_true, Bool.and_eq_true] at hB
    obtain ⟨⟨⟨hr, hf⟩, hin⟩, hB'⟩ := hB
    have hr' : i ∈ Region.ready .any ops listed := by simpa using hr
    have hin' : i < n := of_decide_eq_true hin
    obtain ⟨o, a1, h0, hst, hK⟩ := h
    have hst' : ∀ W, S W → ∃ v', YieldsAt P ops W o v' a ∧ a.put o.dst v' = a1 := fun W hW => by
      have := hst W hW
      exact yieldsAt_of_stOp (i := i) h0 (by unfold stOp; simp only [h0]; exact this)
    obtain ⟨v, _, hv⟩ := hst' w hS
    subst hv
    exact wpX_first h0 (Region.noSelect_spec hsel) hs hc hn hin' (fun listed' a' w' hL => seqB_ready hL.1) r.depth S listed a w v inv (Region.free_spec h0 hf) hr' hS hst'
      (wpX_of_tr hsel hs hc hn r S _ _ w (inv.set hr' hin') hS hB' hK)
  | .make i r, S, listed, a, w, inv, hS, hB, h => by
    rw [trB, Bool.and_eq_true, Bool.and_eq_true] at hB
    obtain ⟨⟨hr, hin⟩, hB'⟩ := hB
    have hr1 : Region.ready .any ops listed = [i] := of_decide_eq_true hr
    have hin' : i < n := of_decide_eq_true hin
    refine ⟨fun h => (by rw [hr1] at h; cases h), fun j hj => ?_⟩
    have hji : j = i := by rw [hr1] at hj; simpa using hj
    subst hji
    refine ⟨hin', ?_⟩
    have h' : wpOp P ops (Calm Q) j (fun a' w' => ∃ S' : World → Prop, (∀ W, S' W → S W) ∧ S' w' ∧ wpTr P ops Q Lq r S' a' w') a w := h
    refine wpOp_mono (fun a' w' ⟨S', hm, hS', h3⟩ => ⟨S', hm, hS', ?_⟩) h'
    exact wpX_of_tr hsel hs hc hn r S' _ a' w' (inv.set hj hin') hS' hB' h3
  | .two i k r q, S, listed, a, w, inv, hS, hB, h => by
    rw [trB, Bool.and_eq_true, Bool.and_eq_true, Bool.and_eq_true] at hB
    obtain ⟨⟨⟨hr, hin⟩, hB1⟩, hB2⟩ := hB
    have hr1 : Region.ready .any ops listed = [i, k] := of_decide_eq_true hr
    obtain ⟨hi, hk, hd⟩ := of_decide_eq_true hin
    obtain ⟨h1, h2⟩ : wpOp P ops (Calm Q) i (fun a' w' => ∃ S' : World → Prop, (∀ W, S' W → S W) ∧ S' w' ∧ wpTr P ops Q Lq r S' a' w') a w ∧ wpOp P ops (Calm Q) k (fun a' w' => ∃ S' : World → Prop, (∀ W, S' W → S W) ∧ S' w' ∧ wpTr P ops Q Lq q S' a' w') a w := h
    refine ⟨fun h => (by rw [hr1] at h; cases h), fun j hj => ?_⟩
    have hji : j = i ∨ j = k := by rw [hr1] at hj; simpa using hj
    rcases hji with rfl | rfl
    · refine ⟨hi, wpOp_mono (fun a' w' ⟨S', hm, hS', h3⟩ => ⟨S', hm, hS', ?_⟩) h1⟩
      exact wpX_of_tr hsel hs hc hn r S' _ a' w' (inv.set hj hi) hS' hB1 h3
    · refine ⟨hk, wpOp_mono (fun a' w' ⟨S', hm, hS', h3⟩ => ⟨S', hm, hS', ?_⟩) h2⟩
      have := wpX_of_tr hsel hs hc hn q S' _ a' w' (inv.set hj hk) hS' hB2 h3
      rw [hd] at this
      exact this

theorem wpTr_nil {Lq : Act → World → Prop} {S : World → Prop} {a : Act} {w : World} (h : Lq a w) : wpTr P ops Q Lq .nil S a w := h
/-- An operation that only reads. -/
theorem wpTr_step {l : List Oper} {Lq : Act → World → Prop} {S : World → Prop} {i : Nat} {o : Oper} {r : Sch} {a a1 : Act} {w : World} (hi : l[i]? = some o)
    (h : ∀ W, S W → ∀ K : Act → Prop, (∀ a', a' = a1 → K a') → if Region.wanted o (yielded l.toArray a.tmps) then o.still P a W K else K (a.put o.dst undef))
    (h2 : wpTr P l.toArray Q Lq r S a1 w) : wpTr P l.toArray Q Lq (.quiet i r) S a w :=
  ⟨o, a1, by simpa using hi, fun W hS => h W hS (fun a' => a' = a1) (fun _ h => h), h2⟩
/-- One that makes memory: S may say more behind it. -/
theorem wpTr_make {l : List Oper} {Lq : Act → World → Prop} {S : World → Prop} {i : Nat} {o : Oper} {r : Sch} {a : Act} {w : World} (hi : l[i]? = some o)
    (h : ∀ K' : Act → World → Prop, (∀ a' w' (S' : World → Prop), (∀ W, S' W → S W) → S' w' → wpTr P l.toArray Q Lq r S' a' w' → K' a' w') → if Region.wanted o (yielded l.toArray a.tmps) then o.wp P a w K' (Calm Q) else K' (a.put o.dst undef) w) :
    wpTr P l.toArray Q Lq (.make i r) S a w :=
  wpOp_step hi (fun K' hK => h K' (fun a' w' S' h1 h2 h3 => hK a' w' ⟨S', h1, h2, h3⟩))
/-- Two that make memory, either of which may come first. -/
theorem wpTr_two {l : List Oper} {Lq : Act → World → Prop} {S : World → Prop} {i j : Nat} {o p : Oper} {r q : Sch} {a : Act} {w : World} (hi : l[i]? = some o) (hj : l[j]? = some p)
    (h : ∀ K' : Act → World → Prop, (∀ a' w' (S' : World → Prop), (∀ W, S' W → S W) → S' w' → wpTr P l.toArray Q Lq r S' a' w' → K' a' w') → if Region.wanted o (yielded l.toArray a.tmps) then o.wp P a w K' (Calm Q) else K' (a.put o.dst undef) w)
    (h2 : ∀ K' : Act → World → Prop, (∀ a' w' (S' : World → Prop), (∀ W, S' W → S W) → S' w' → wpTr P l.toArray Q Lq q S' a' w' → K' a' w') → if Region.wanted p (yielded l.toArray a.tmps) then p.wp P a w K' (Calm Q) else K' (a.put p.dst undef) w) :
    wpTr P l.toArray Q Lq (.two i j r q) S a w :=
  ⟨wpOp_step hi (fun K' hK => h K' (fun a' w' S' h1 h2 h3 => hK a' w' ⟨S', h1, h2, h3⟩)), wpOp_step hj (fun K' hK => h2 K' (fun a' w' S' h1 h2 h3 => hK a' w' ⟨S', h1, h2, h3⟩))⟩
/-- The region by its tree: n operations, and a tail in its order. -/
theorem wp_region_tree {id : Nat} {a : Act} {w : World} {l : List Oper} (S : World → Prop) (n : Nat) (sch : Sch) (hm : P.follows .mixedOrders = true) (hB : treeB l.toArray n sch = true) (hS : S w.drew)
    (h : wpTr P l.toArray Q (fun a' w' => wpList P l.toArray Q (l.drop n) a' w') sch S a w.drew) : (Code.region id l.toArray true).wp P Q a w := by
  simp only [treeB, Bool.and_eq_true, decide_eq_true_eq] at hB
  obtain ⟨⟨⟨⟨⟨hsel, hn⟩, hs⟩, hc⟩, hlen⟩, hlex⟩ := hB
  have hn' : n < l.length := by simpa using hn
  have hdl : (l.drop n).length = l.toArray.size - n := by simp
  have inv0 : HeadInv .any l.toArray n (Array.replicate l.toArray.size false) :=
    ⟨by simp, fun j oj _ hl => (by rw [getD_replicate_false] at hl; cases hl), fun t _ ht => getD_in (by simpa using ht) (getD_replicate_false _ _)⟩
  have H := wpX_of_tr (Q := Q) (g := l.toArray.size - n) (Lq := fun a'' w'' => wpList P l.toArray Q (l.drop n) a'' w'') hsel hs hc hn sch S _ a w.drew inv0 hS hlex h
  refine wp_region_any hm ?_
  have := any_of_wpX (Q := Q) (g := l.toArray.size - n) (fun listed a' w' hL => by
    have := wpAny_of_seq (md := .any) (Q' := Q) (l.drop n) n listed a' w' (fun j => by simp [List.getElem?_drop]) (by rw [hdl]; exact hL.1) hL.2
    rwa [hdl] at this) _ _ _ _ _ H
  rw [hlen, show n + (l.toArray.size - n) = l.toArray.size by omega] at this
  exact this
end
end Go.Proofs.YtopinlnjdgedeaaDoor

namespace Go.Proofs.YtopinlnjdgedeaaDoor
open Go Go.RowKit Go.ChangeShapes Go.WideShapes Go.ChangeAt

/-- A cache: its region, its entries, its number, its hand. -/
structure SecD where
  f : Nat
  n : Nat
  e : List EnD
  num : Nat
  hand : Nat
def roomN (n : Nat) : Nat := n / 8 * 7 + (n % 8 - 1)
def secN (f p : Nat) : Nat := f + p + p / 7 + 1
/-- Its cells. -/
abbrev secC (b m : Nat) (x : SecD) : Array Value := #[.pointer (some ⟨b, 0, none⟩), .int .i64 x.f, .int .i64 x.n, .map (some m), .int .i64 x.num, .int .i64 x.hand]
def SecB (w : World) (s b m : Nat) (x : SecD) : Prop := Box w s 62 (secC b m x)
/-- Block s is a cache whose map is block m, on the devices at block b. -/
structure SecAt (w : World) (s b m : Nat) (x : SecD) : Prop where
  box : Box w s 62 (secC b m x)
  map : EnAt w m x.e
  ne : s ≠ m
theorem SecAt.keep {w w' : World} {s b m : Nat} {x : SecD} (h : SecAt w s b m x) (hb : Below w.heap.size w w') : SecAt w' s b m x := ⟨h.box.keep hb h.box.lt, h.map.keep hb, h.ne⟩
/-- What is known of the region. -/
structure SecOk (x : SecD) : Prop where
  two : 2 ≤ x.n
  fits : x.f + x.n ≤ 512

theorem room_pos {n : Nat} (h : 2 ≤ n) : 1 ≤ roomN n := by unfold roomN; omega
theorem room_le (n : Nat) : roomN n ≤ n := by unfold roomN; omega
theorem secN_lt {f n p : Nat} (h : p < roomN n) : secN f p < f + n := by unfold secN; unfold roomN at h; omega
theorem secN_inj {f p q : Nat} (h : secN f p = secN f q) : p = q := by unfold secN at h; omega
theorem secN_ge (f p : Nat) : f + p < secN f p := by unfold secN; omega

theorem sizeLoc : (Tryd.prog.info? 48).map (·.size) = some 2 := by kernel_rfl

section
variable (s b m : Nat) (x : SecD) (w : World)

set_option maxRecDepth 100000 in
theorem room_any (h : Box w s 62 (secC b m x)) (hx : x.n ≤ 512) : Calls Tryd.prog 14 #[.pointer (some ⟨s, 0, none⟩)] w fun e w' => e = .returned (.int .i64 (roomN x.n : Nat)) ∧ Below w.heap.size w w' := by
  have c2 : w.cell? ⟨s, 2, none⟩ = some (.int .i64 x.n) := h.cell 2 _ rfl
  clear h
  have HR : Hid ((roomN x.n : Int) = (x.n : Int) / 8 * 7 + (if (x.n : Int) % 8 - 1 < 0 then 0 else (x.n : Int) % 8 - 1)) := by
    show _ = _
    unfold roomN
    split <;> omega
  generalize ((roomN x.n : Nat) : Int) = r at *
  obtain ⟨n, hn⟩ : ∃ n, n = (x.n : Int) := ⟨_, rfl⟩
  have n0 : 0 ≤ n ∧ n ≤ 512 := by omega
  rw [← hn] at c2 HR
  clear hn hx
  have k1 : Int.tdiv n 8 = n / 8 := Int.tdiv_eq_ediv_of_nonneg n0.1
  have k2 : Int.tmod n 8 = n % 8 := Int.tmod_eq_emod_of_nonneg n0.1
  obtain ⟨d, hd⟩ : ∃ d, d = n / 8 := ⟨_, rfl⟩
  obtain ⟨u, hu⟩ : ∃ u, u = n % 8 := ⟨_, rfl⟩
  have hd2 : 0 ≤ d ∧ d ≤ 64 := by omega
  have hu2 : 0 ≤ u ∧ u ≤ 7 := by omega
  rw [← hd] at k1 HR
  rw [← hu] at k2 HR
  clear hd hu
  have w1 : wrap64 d = d := IntWalk.wrap64_in _ (by omega)
  have w2 : wrap64 (d * 7) = d * 7 := IntWalk.wrap64_in _ (by omega)
  have w3 : wrap64 u = u := IntWalk.wrap64_in _ (by omega)
  have w4 : wrap64 (u - 1) = u - 1 := IntWalk.wrap64_in _ (by omega)
  have w5 : wrap64 (d * 7 + (u - 1)) = d * 7 + (u - 1) := IntWalk.wrap64_in _ (by omega)
  have w6 : wrap64 (d * 7 + 0) = d * 7 + 0 := IntWalk.wrap64_in _ (by omega)
  have i1 : IntKind.i64.wrap d = d := IntWalk.i64_in _ ⟨by omega, by omega⟩
  have i2 : IntKind.i64.wrap (d * 7) = d * 7 := IntWalk.i64_in _ ⟨by omega, by omega⟩
  have i4 : IntKind.i64.wrap (u - 1) = u - 1 := IntWalk.i64_in _ ⟨by omega, by omega⟩
  have HD : Hid (Below w.heap.size w w.drew) := (Below.refl _ w).drew
  by_cases h0 : u - 1 < 0
  · have hz : ¬ 0 ≤ u - 1 := by omega
    rw [if_pos h0] at HR
    go_enter Tryd.func14, Tryd.ntmps14
    go_wp2_with fail
    refine wp_region_tree (fun W => W.cell? ⟨s, 2, none⟩ = some (.int .i64 n)) 13 (.quiet 0 (.quiet 1 (.quiet 2 (.quiet 3 (.quiet 4 (.quiet 5 (.quiet 6 (.quiet 7 (.quiet 8 (.quiet 9 (.quiet 10 (.quiet 11 (.quiet 12 .nil))))))))))))) (by kernel_rfl) (by kernel_rfl) c2 ?_
    simp only [List.drop_succ_cons, List.drop_zero]
    iterate 13 (apply wpTr_step rfl; (intro W hS K hK; go_simp; exact hK _ rfl))
    refine wpTr_nil ?_
    go_wp2
    go_ret
    exact ⟨ret_int (by rw [HR.out]; try simp), HD.out⟩
  · have hz : 0 ≤ u - 1 := by omega
    rw [if_neg h0] at HR
    go_enter Tryd.func14, Tryd.ntmps14
    go_wp2_with fail
    refine wp_region_tree (fun W => W.cell? ⟨s, 2, none⟩ = some (.int .i64 n)) 13 (.quiet 0 (.quiet 1 (.quiet 2 (.quiet 3 (.quiet 4 (.quiet 5 (.quiet 6 (.quiet 7 (.quiet 8 (.quiet 9 (.quiet 10 (.quiet 11 (.quiet 12 .nil))))))))))))) (by kernel_rfl) (by kernel_rfl) c2 ?_
    simp only [List.drop_succ_cons, List.drop_zero]
    iterate 13 (apply wpTr_step rfl; (intro W hS K hK; go_simp; exact hK _ rfl))
    refine wpTr_nil ?_
    go_wp2
    go_ret
    exact ⟨ret_int (by rw [HR.out]; try simp), HD.out⟩

theorem room_nil : Calls Tryd.prog 14 #[.pointer none] w fun e w' => e = .returned (.int .i64 0) ∧ Below w.heap.size w w' := by
  go_enter Tryd.func14, Tryd.ntmps14
  go_wp2
  go_ret
  exact ⟨rfl, Below.refl _ _⟩

theorem sector_any (p : Nat) (h : Box w s 62 (secC b m x)) (hx : x.f ≤ 512) (hp : p ≤ 1000) : Calls Tryd.prog 26 #[.pointer (some ⟨s, 0, none⟩), .int .i64 p] w fun e w' => e = .returned (.int .i64 (secN x.f p : Nat)) ∧ w = w' := by
  have c1 : w.cell? ⟨s, 1, none⟩ = some (.int .i64 x.f) := h.cell 1 _ rfl
  have HR : Hid ((secN x.f p : Int) = x.f + p + p / 7 + 1) := by
    show _ = _
    unfold secN
    omega
  generalize ((secN x.f p : Nat) : Int) = r at *
  have k1 : Int.tdiv (p : Int) 7 = (p : Int) / 7 := Int.tdiv_eq_ediv_of_nonneg (by omega)
  have w1 : wrap64 ((x.f : Int) + p) = x.f + p := IntWalk.wrap64_in _ (by omega)
  have w2 : wrap64 ((p : Int) / 7) = (p : Int) / 7 := IntWalk.wrap64_in _ (by omega)
  have w3 : wrap64 ((x.f : Int) + p + (p : Int) / 7) = x.f + p + (p : Int) / 7 := IntWalk.wrap64_in _ (by omega)
  have w4 : wrap64 ((x.f : Int) + p + (p : Int) / 7 + 1) = x.f + p + (p : Int) / 7 + 1 := IntWalk.wrap64_in _ (by omega)
  clear h hx hp
  go_enter Tryd.func26, Tryd.ntmps26
  go_wp2
  go_ret
  exact ⟨ret_int (by rw [HR.out, w4]), rfl⟩

theorem fast_any (v : Int) : Calls Tryd.prog 29 #[.int .i64 v] w fun e w' => e = .returned (locV (1, v)) ∧ Below w.heap.size w w' := by
  unfold locV
  have HX := Lib.hid ((Below.refl w.heap.size w).alloc (Nat.le_refl _) (.cells #[.int .i64 1, .int .i64 v] 48))
  have BX := Lib.hid (Box.new w 48 #[.int .i64 1, .int .i64 v])
  go_enter Tryd.func29, Tryd.ntmps29
  go_wp2
  refine bodyPost_ret (results_cell_row rfl _ _ w.heap.size 48 _ (0, 0) _ rfl BX.out Tryd.underlying48 rfl sizeLoc) rfl ?_
  exact ⟨rfl, HX.out⟩

theorem log_any (p : Nat) (h : Box w s 62 (secC b m x)) (hx : x.f ≤ 512) (hp : p ≤ 1000) : Calls Tryd.prog 43 #[.pointer (some ⟨s, 0, none⟩), .int .i64 p] w fun e w' => e = .returned (locV (1, (secN x.f p - 1 : Nat))) ∧ Below w.heap.size w w' := by
  have H := Lib.hid (h.alloc (.cells #[.int .i64 0, .int .i64 0] 48))
  have HX := Lib.hid ((Below.refl w.heap.size w).alloc (Nat.le_refl _) (.cells #[.int .i64 0, .int .i64 0] 48))
  have BX := Lib.hid (Box.new w 48 #[.int .i64 0, .int .i64 0])
  have HV : Hid (wrap64 ((secN x.f p : Nat) - 1 : Int) = ((secN x.f p - 1 : Nat) : Int)) := by
    show _ = _
    rw [IntWalk.wrap64_in _ (by unfold secN; omega)]
    unfold secN
    omega
  have HS := Lib.hid hx
  have HP := Lib.hid hp
  clear h hx hp
  go_enter Tryd.func43, Tryd.ntmps43
  go_wp2_with fail
  refine (sector_any s b m x _ p H.out HS.out HP.out).mono ?_
  rintro e w1 ⟨rfl, rfl⟩
  obtain ⟨q, hq⟩ : ∃ q, q = secN x.f p := ⟨_, rfl⟩
  rw [← hq] at HV ⊢
  have HQ := Lib.hid hq
  clear hq
  go_wp2_with fail
  rw [HV.out]
  refine (fast_any _ _).mono ?_
  rintro e w2 ⟨rfl, hb⟩
  have B2 := Lib.hid (BX.out.keep hb BX.out.lt)
  have HB2 := Lib.hid (HX.out.trans (hb.mono HX.out.size))
  unfold locV
  have f0 := B2.out.free 0
  have f1 := B2.out.free 1
  have c0 := B2.out.cell 0 _ rfl
  have c1 := B2.out.cell 1 _ rfl
  clear hb HX BX
  go_wp2
  have B3 := (B2.out.set 0 (.int .i64 1)).set 1 (.int .i64 ((q - 1 : Nat) : Int))
  have hz := HB2.out.size
  refine bodyPost_ret (results_cell_row rfl _ _ w.heap.size 48 _ (0, 0) _ rfl B3 Tryd.underlying48 rfl sizeLoc) rfl ?_
  refine ⟨by rw [HQ.out]; rfl, HB2.out.trans (((Only.set w.heap.size 0 w2 _).trans (Only.set w.heap.size 1 _ _)).below' (Nat.le_refl _) hz)⟩

theorem behind_any (p : Nat) (h : Box w s 62 (secC b m x)) (hx : x.n ≤ 512) (hp : p ≤ 1000) : Calls Tryd.prog 39 #[.pointer (some ⟨s, 0, none⟩), .int .i64 p] w fun e w' => e = .returned (.int .i64 ((if roomN x.n ≤ p + 7 then 0 else p + 7 : Nat))) ∧ Below w.heap.size w w' := by
  have H := Lib.hid h
  have w1 : wrap64 ((p : Int) + 7) = p + 7 := IntWalk.wrap64_in _ (by omega)
  have HX := Lib.hid hx
  clear h hx
  by_cases hr : roomN x.n ≤ p + 7
  · have HV : Hid (((if roomN x.n ≤ p + 7 then 0 else p + 7 : Nat) : Int) = 0) := by show _ = _; rw [if_pos hr]; rfl
    have d : ((roomN x.n : Nat) : Int) ≤ (p : Int) + 7 := by omega
    generalize ((if roomN x.n ≤ p + 7 then 0 else p + 7 : Nat) : Int) = v at *
    clear hp hr
    go_enter Tryd.func39, Tryd.ntmps39
    go_wp2_with fail
    refine (room_any s b m x _ H.out HX.out).mono ?_
    rintro e w2 ⟨rfl, hb⟩
    have HB := Lib.hid hb
    clear hb
    go_wp2
    go_ret
    exact ⟨ret_int HV.out.symm, HB.out⟩
  · have HV : Hid (((if roomN x.n ≤ p + 7 then 0 else p + 7 : Nat) : Int) = p + 7) := by show _ = _; rw [if_neg hr]; omega
    have d : ¬ ((roomN x.n : Nat) : Int) ≤ (p : Int) + 7 := by omega
    generalize ((if roomN x.n ≤ p + 7 then 0 else p + 7 : Nat) : Int) = v at *
    clear hp hr
    go_enter Tryd.func39, Tryd.ntmps39
    go_wp2_with fail
    refine (room_any s b m x _ H.out HX.out).mono ?_
    rintro e w2 ⟨rfl, hb⟩
    have HB := Lib.hid hb
    clear hb
    go_wp2
    go_ret
    exact ⟨ret_int (w1.trans HV.out.symm), HB.out⟩

theorem mayfeed_any (k l : ByteArray) : Calls Tryd.prog 23 #[.string k, .string l] w fun e w' => e = .returned (.bool (decide (1 ≤ k.size ∧ k.size ≤ 60 ∧ l.size ≤ 960))) ∧ w = w' := by
  by_cases h0 : 1 ≤ k.size
  · have d0 : (k.toList == []) = false := str_nz h0
    by_cases h1 : k.size ≤ 60
    · have d1 : decide ((k.size : Int) ≤ 60) = true := decide_eq_true (by omega)
      by_cases h2 : l.size ≤ 960
      · have d2 : decide ((l.size : Int) ≤ 960) = true := decide_eq_true (by omega)
        rw [show decide (1 ≤ k.size ∧ k.size ≤ 60 ∧ l.size ≤ 960) = true from decide_eq_true ⟨h0, h1, h2⟩]
        clear h0 h1 h2
        go_enter Tryd.func23, Tryd.ntmps23
        go_wp2
        go_ret
        exact ⟨rfl, rfl⟩
      · have d2 : decide ((l.size : Int) ≤ 960) = false := decide_eq_false (by omega)
        rw [show decide (1 ≤ k.size ∧ k.size ≤ 60 ∧ l.size ≤ 960) = false from decide_eq_false (fun h => h2 h.2.2)]
        clear h0 h1 h2
        go_enter Tryd.func23, Tryd.ntmps23
        go_wp2
        go_ret
        exact ⟨rfl, rfl⟩
    · have d1 : decide ((k.size : Int) ≤ 60) = false := decide_eq_false (by omega)
      rw [show decide (1 ≤ k.size ∧ k.size ≤ 60 ∧ l.size ≤ 960) = false from decide_eq_false (fun h => h1 h.2.1)]
      clear h0 h1
      go_enter Tryd.func23, Tryd.ntmps23
      go_wp2
      go_ret
      exact ⟨rfl, rfl⟩
  · obtain rfl : k = ⟨#[]⟩ := str_zero (by omega)
    rw [show decide (1 ≤ (⟨#[]⟩ : ByteArray).size ∧ (⟨#[]⟩ : ByteArray).size ≤ 60 ∧ l.size ≤ 960) = false from decide_eq_false (fun h => h0 h.1)]
    clear h0
    go_enter Tryd.func23, Tryd.ntmps23
    go_wp2
    go_ret
    exact ⟨rfl, rfl⟩
end
end Go.Proofs.YtopinlnjdgedeaaDoor
