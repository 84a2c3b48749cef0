/-
  Package second: isPlace.
-/
import Derived.Test.YtopinlnjdgedeaaDoorMg15
import Derived.BigRegionIn
namespace Go.Proofs.YtopinlnjdgedeaaDoor
open Go Go.RowKit Go.Shelf Go.ChangeShapes Go.WideShapes Go.ChangeAt

attribute [local go_sem] Oper.semAt_some

/-- Is v the sector of one of the group's places? -/
def isPl (f n fr : Nat) (v : Int) : Bool := (List.range 7).any (fun i => decide (fr + i < roomN n ∧ (secN f (fr + i) : Int) = v))
theorem isPl_yes {f n fr : Nat} {v : Int} {k : Nat} (h0 : fr ≤ k) (h : k < min (fr + 7) (roomN n)) (hv : (secN f k : Int) = v) : isPl f n fr v = true := by
  unfold isPl
  rw [List.any_eq_true]
  exact ⟨k - fr, by rw [List.mem_range]; omega, by rw [decide_eq_true_eq, show fr + (k - fr) = k by omega]; exact ⟨by omega, hv⟩⟩
theorem isPl_no {f n fr : Nat} {v : Int} (h : ∀ k, fr ≤ k → k < min (fr + 7) (roomN n) → (secN f k : Int) ≠ v) : isPl f n fr v = false := by
  unfold isPl
  rw [List.any_eq_false]
  intro i hi hd
  rw [List.mem_range] at hi
  rw [decide_eq_true_eq] at hd
  exact h (fr + i) (by omega) (by omega) hd.2

/-- What lies in the walk's own blocks. -/
def SameLow (g n : Nat) (X W : World) : Prop := n ≤ W.heap.size ∧ ∀ i, i < n → g ≤ i → W.heap[i]? = X.heap[i]?
theorem SameLow.keep {g n : Nat} {X W W' : World} (h : SameLow g n X W) (hb : Below W.heap.size W W') : SameLow g n X W' :=
  ⟨Nat.le_trans h.1 hb.size, fun i hi hg => (hb.block i (Nat.lt_of_lt_of_le hi h.1)).trans (h.2 i hi hg)⟩
theorem SameLow.put {g n : Nat} {X W : World} (h : SameLow g n X W) (r : Nat) (o : Obj) (hr : n ≤ r) : SameLow g n X (W.putObj r o) :=
  ⟨Nat.le_trans h.1 (putObj_os _ _ _), fun i hi hg => (World.putObj_heap_other (by omega)).trans (h.2 i hi hg)⟩
theorem SameLow.box {g n b : Nat} {X W : World} {t : TypeId} {cs : Array Value} (h : SameLow g n X W) (hx : Box X b t cs) (h1 : b < n) (h2 : g ≤ b) : Box W b t cs := hx.of (h.2 b h1 h2)
theorem below_put {g : Nat} {w W : World} (h : Below g w W) (hw : g ≤ w.heap.size) (r : Nat) (o : Obj) (hr : g ≤ r) : Below g w (W.putObj r o) :=
  h.grown (grownBy_putObj' W r o) (Nat.le_trans hw h.size) (fun k e => by cases e; exact hr)

/-- One result that lies in a cell. -/
theorem results_c1 {P : Program} {fn : Func} {p : Tmp} {t1 : TypeId} (h : fn.results = #[.cell p t1]) (tmps : Array Value) (w : World) (a1 : Addr) (v1 : Value)
    (hp : tmps.getD p undef = .pointer (some a1)) (g1 : (isAgg t1).run P w = .ok false w) (h1 : w.cell? a1 = some v1) : (results fn tmps).run P w = .ok v1 w := by
  have hp' : tmps[p]?.getD undef = .pointer (some a1) := by simpa using hp
  simp [results, h, hp', asAddr, loadVar, Sem.run_bind, g1, h1, go_sem]

def IpJ (w X : World) (g f fr : Nat) (v : Int) (k : Nat) (W : World) : Prop := Below g w W ∧ SameLow g (g + 5) X W ∧ ∀ j, fr ≤ j → j < k → (secN f j : Int) ≠ v
def IpX (w : World) (g f n fr : Nat) (v : Int) (W : World) : Prop := Below g w W ∧ g + 5 ≤ W.heap.size ∧ Box W (g + 1) 4 #[.bool true] ∧ isPl f n fr v = true

set_option maxRecDepth 100000 in
set_option maxHeartbeats 2000000 in
theorem isplace_in (s b m : Nat) (x : SecD) (w : World) (h : Box w s 62 (secC b m x)) (hx : x.f ≤ 512) (hn : x.n ≤ 512) (fr : Nat) (hfr : fr ≤ 900) (v : Int) :
    CallsIn Fence.wide 6 Tryd.prog 49 #[.pointer (some ⟨s, 0, none⟩), .int .i64 fr, .int .i64 v] w fun e w' => e = .returned (.bool (isPl x.f x.n fr v)) ∧ Below w.heap.size w w' := by
  have B0 := Box.new w 3 #[.int .i64 v]
  have B1 := Box.new (w.alloc (.cells #[.int .i64 v] 3)) 4 #[.bool false]
  rw [size_alloc] at B1
  have hb0 : Below w.heap.size w ((w.alloc (.cells #[.int .i64 v] 3)).alloc (.cells #[.bool false] 4)) := ((Below.refl _ w).alloc (Nat.le_refl _) _).alloc (by rw [size_alloc]; omega) _
  have HB0 := Lib.hid hb0
  have HB1 := Lib.hid B1
  have HBV := Lib.hid (B0.alloc (.cells #[.bool false] 4))
  have HS := Lib.hid h
  have HX := Lib.hid hx
  have HN := Lib.hid hn
  have HF := Lib.hid hfr
  have hw7 : wrap64 ((fr : Int) + 7) = ((fr + 7 : Nat) : Int) := by rw [IntWalk.wrap64_in _ (by omega)]; omega
  clear h hx hn hfr B0 B1 hb0
  refine callsIn_of_wp_marks Tryd.func49 rfl trivial ?_ rfl
  simp only [Tryd.ntmps49, List.size_toArray, List.length_cons, List.length_nil, Nat.reduceAdd, Nat.reduceSub, Array.replicate_succ, Array.replicate_zero, List.push_toArray, List.append_toArray, List.nil_append, List.cons_append]
  gi_wp2_with fail
  refine ⟨trivial, ?_⟩
  generalize hW1 : (w.alloc (.cells #[.int .i64 v] 3)).alloc (.cells #[.bool false] 4) = W1 at *
  have hz1 : W1.heap.size = w.heap.size + 2 := by rw [← hW1]; simp only [size_alloc]
  clear hW1
  refine (callsIn_wide.2 (places_any _ _ _ _)).mono ?_
  rintro e X ⟨rfl, hb, bs, b4, b5⟩
  rw [show ((fr : Int) + 7) = ((fr + 7 : Nat) : Int) by omega] at b5
  rw [hz1] at hb bs b4 b5 ⊢
  obtain ⟨g, hg⟩ : ∃ g, g = w.heap.size := ⟨_, rfl⟩
  rw [← hg] at HB0 HB1 HBV hz1 hb bs b4 b5 ⊢
  have HBX := Lib.hid (HB0.out.trans (hb.mono (Nat.le_add_right g 2)))
  have HR := Lib.hid (HB1.out.keep hb (Nat.lt_succ_self (g + 1)))
  have HV := Lib.hid (HBV.out.keep hb (by omega))
  have HBS := Lib.hid bs
  have HB4 := Lib.hid b4
  have HB5 := Lib.hid b5
  have HG := Lib.hid hg
  clear hb bs b4 b5 hg HB0 HB1 HBV hz1
  simp only [Nat.add_assoc, Nat.reduceAdd] at *
  gi_wp2_with fail
  obtain ⟨z, hz⟩ : ∃ z, z = X.heap.size := ⟨_, rfl⟩
  have HZ : Hid (z = X.heap.size ∧ g + 5 ≤ z) := ⟨hz, by rw [hz]; exact HB5.out.lt⟩
  have HL0 : Hid (SameLow g (g + 5) X X) := ⟨by rw [← hz]; exact HZ.out.2, fun _ _ _ => rfl⟩
  refine range_by (gf := 53) (lb := #[.pointer (some ⟨g + 3, 0, none⟩), .pointer (some ⟨g + 4, 0, none⟩), .pointer (some ⟨g + 2, 0, none⟩)]) (by decide) rfl (enters_of Tryd.func53 (by kernel_rfl) rfl)
    fr (min (fr + 7) (roomN x.n)) (fun k => #[.int .i64 (secN x.f k)]) (fun _ => rfl) (fun W => Below g w W ∧ SameLow g (g + 5) X W)
    (fun l J Jx W hgd hbl hyy h0 => ?iter) (IpJ w X g x.f fr v) (IpX w g x.f x.n fr v) (fun k W h => ⟨h.1, h.2.1⟩) ?jb ?jp ?xp ⟨HBX.out, HL0.out, fun j h1 h2 => absurd h2 (by omega)⟩ ?body ?fin ?ret
  case iter =>
    have hB : ∀ W, Below g w W → Box W s 62 (secC b m x) := fun W hb => HS.out.keep hb (by rw [HG.out]; exact HS.out.lt)
    refine places_iter 5 l (g + 2) (g + 3) (g + 4) (by decide) (some ⟨s, 0, none⟩) fr (fr + 7) (roomN x.n) (by have := HF.out; omega) (by have := HF.out; omega) (Nat.le_trans (room_le _) (Nat.le_trans HN.out (by decide))) (secN x.f) _ ?_ ?_ ?_ J Jx W hgd hbl hyy h0
    · rintro W ⟨hb, hl⟩
      exact ⟨hl.box HBS.out (by omega) (by omega), hl.box HB4.out (by omega) (by omega), hl.box HB5.out (by omega) (by omega)⟩
    · rintro W ⟨hb, hl⟩
      exact room_any s b m x W (hB W hb) HN.out
    · rintro W k ⟨hb, hl⟩ h1 h2
      exact sector_any s b m x W k (hB W hb) HX.out (by have := HF.out; omega)
  case jb =>
    rintro k W W' ⟨hb, hl, hk⟩ hbb
    exact ⟨hb.trans (hbb.mono (by have := hl.1; omega)), hl.keep hbb, hk⟩
  case jp =>
    rintro k W o ⟨hb, hl, hk⟩ hs
    have := HZ.out
    exact ⟨below_put hb (by rw [HG.out]; exact Nat.le_refl _) _ _ (by omega), hl.put _ _ (by omega), hk⟩
  case xp =>
    rintro W o ⟨hb, hl, hr, hk⟩ hs
    have := HZ.out
    exact ⟨below_put hb (by rw [HG.out]; exact Nat.le_refl _) _ _ (by omega), Nat.le_trans hl (putObj_os _ _ _), hr.of (World.putObj_heap_other (by omega)), hk⟩
  case body =>
    rintro k W h1 h2 ⟨hb, hl, hk⟩ hs
    have HB := Lib.hid hb
    have HL := Lib.hid hl
    have HK := Lib.hid (And.intro h1 (And.intro h2 hk))
    rw [← hz] at hs ⊢
    have HSZ := Lib.hid hs
    clear hb hl hk h1 h2 hs hz
    gi_wp2_with fail
    intro o
    have hb1 := below_put (o := o) HB.out (by rw [HG.out]; exact Nat.le_refl _) (z + 1) (by have := HZ.out; omega)
    have hl1 := HL.out.put (z + 1) o (by have := HZ.out; omega)
    have hd1 : (W.putObj (z + 1) o).heap[z]? = W.heap[z]? := World.putObj_heap_other (by omega)
    have hs1 := putObj_os W (z + 1) o
    obtain ⟨r1, hr1⟩ : ∃ r1, r1 = (W.putObj (z + 1) o).heap[z + 1]? := ⟨_, rfl⟩
    rw [← hr1]
    generalize W.putObj (z + 1) o = W1 at *
    have HB1 := Lib.hid hb1
    have HL1 := Lib.hid hl1
    have HD1 := Lib.hid hd1
    have HS1 := Lib.hid hs1
    have HR1 := Lib.hid hr1
    have cv : W1.cell? ⟨g, 0, none⟩ = some (.int .i64 v) := (HL1.out.box HV.out (by omega) (by omega)).cell 0 _ rfl
    clear hb1 hl1 hd1 hs1 hr1
    by_cases hv : (secN x.f k : Int) = v
    · have HYES := Lib.hid (isPl_yes (f := x.f) (n := x.n) HK.out.1 HK.out.2.1 hv)
      have d : ((secN x.f k : Int) == v) = true := by simpa using hv
      have br : Box W1 (g + 1) 4 #[.bool false] := HL1.out.box HR.out (by omega) (by omega)
      have BR := Lib.hid br
      have c1 := br.cell 0 _ rfl
      have f1 := br.free 0
      clear hv br
      generalize (secN x.f k : Int) = sv at *
      gi_wp2
      have h3 := BR.out.set 0 (.bool true)
      have hzz := HZ.out
      have ho := Only.set (g + 1) 0 W1 (.bool true)
      refine ⟨HS1.out, ?_, ?_, HB1.out.trans (ho.below' (by omega) ?_), Nat.le_trans HL1.out.1 ho.size, h3, HYES.out⟩
      · rw [HR1.out]
        exact heap_setCell_other W1 ⟨g + 1, 0, none⟩ (z + 1) _ (by show z + 1 ≠ g + 1; omega)
      · rw [← HD1.out]
        exact heap_setCell_other W1 ⟨g + 1, 0, none⟩ z _ (by show z ≠ g + 1; omega)
      · have := HL1.out.1; omega
    · have d : ((secN x.f k : Int) == v) = false := by simpa using hv
      have HNO := Lib.hid hv
      clear hv
      generalize hsv : (secN x.f k : Int) = sv at *
      have HSV := Lib.hid hsv
      clear hsv
      gi_wp2
      refine ⟨HS1.out, HR1.out.symm, HD1.out, HB1.out, HL1.out, fun j h1 h2 => ?_⟩
      by_cases e : j = k
      · rw [e, HSV.out]; exact HNO.out
      · exact HK.out.2.2 j h1 (by omega)
  case fin =>
    rintro W ⟨hb, hl, hk⟩ hs hd
    have HNO := Lib.hid (isPl_no (f := x.f) (n := x.n) (fr := fr) (v := v) (fun k h1 h2 => hk k h1 (by omega)))
    have BR := Lib.hid (hl.box HR.out (by omega) (by omega))
    have HB := Lib.hid hb
    have HL := Lib.hid hl
    rw [← hz] at hd ⊢
    have HD := Lib.hid hd
    clear hb hl hk hs hd hz
    have c1 := BR.out.cell 0 _ rfl
    have f1 := BR.out.free 0
    gi_wp2
    have h3 := BR.out.set 0 (.bool false)
    have ho := Only.set (g + 1) 0 W (.bool false)
    have hdd := (heap_setCell_other W ⟨g + 1, 0, none⟩ z (.bool false) (by show z ≠ g + 1; have := HZ.out; omega)).trans HD.out
    refine ⟨by simp, .inl ⟨_, _, rfl, run_takeDeferred hdd, ?_⟩⟩
    refine ⟨_, results_c1 rfl _ _ ⟨g + 1, 0, none⟩ (.bool false) rfl (Tryd.isAgg4 _) ((h3.of (World.putObj_heap_other (by have := HZ.out; omega))).cell 0 _ rfl), ?_⟩
    refine ⟨by rw [HNO.out], ?_⟩
    rw [← HG.out]
    have hzz := HZ.out
    exact below_put (HB.out.trans (ho.below' (by omega) (by have := HL.out.1; omega))) (by rw [HG.out]; exact Nat.le_refl _) _ _ (by omega)
  case ret =>
    rintro W ⟨hb, hs2, br, hk⟩ hs hd
    have BR := Lib.hid br
    have HB := Lib.hid hb
    have HK := Lib.hid hk
    rw [← hz] at hd ⊢
    have HD := Lib.hid hd
    clear hb hk hs hd hz br hs2
    gi_wp2
    refine ⟨by simp, .inl ⟨_, _, rfl, run_takeDeferred HD.out, ?_⟩⟩
    refine ⟨_, results_c1 rfl _ _ ⟨g + 1, 0, none⟩ (.bool true) rfl (Tryd.isAgg4 _) ((BR.out.of (World.putObj_heap_other (by have := HZ.out; omega))).cell 0 _ rfl), ?_⟩
    refine ⟨by rw [HK.out], ?_⟩
    rw [← HG.out]
    have hzz := HZ.out
    exact below_put HB.out (by rw [HG.out]; exact Nat.le_refl _) _ _ (by omega)
end Go.Proofs.YtopinlnjdgedeaaDoor
