/-
  Texts put together: SeO, DevMath.
-/
import Derived.Test.YtopinlnjdgedeaaDoorSeN
import Derived.Test.YtopinlnjdgedeaaDoorMg11
namespace Go.Proofs.YtopinlnjdgedeaaDoor
open Go Go.RowKit Go.ChangeShapes Go.WideShapes Go.ChangeAt

theorem One.addSc {B : Nat} {P : List Nat → World → Prop} {b s m : Nat} {d : DevD} {x : SecD} {w w' : World} (hP : Fixed P) (h : One B P b d w) (hb : Below w.heap.size w w') (hx : SecAt w' s b m x) (hs : w.heap.size ≤ s) (hm : w.heap.size ≤ m) : One B (Both P (ScF s b x)) b d w' := by
  have h2 := h.keep hP hb
  obtain ⟨hz, F, G, h1, hg, h5, h6⟩ := h
  have hc : Chg [] w w' := Chg.of hb (Nat.le_refl _)
  have hF := (fixed_dev b d).lt _ _ h1
  have hG := hP.lt _ _ hg
  refine ⟨Nat.le_trans hz hb.size, F, G ++ [s, m], (fixed_dev b d).keep _ _ _ _ h1 hc (fun _ _ h => by cases h), ⟨G, [s, m], rfl, hP.keep _ _ _ _ hg hc (fun _ _ h => by cases h), ⟨m, rfl, hx⟩, fun k hk hm2 => ?_⟩, fun k hk => ⟨(h5 k hk).1, fun hm2 => ?_⟩, fun k hk => ?_⟩
  · have := hG k hk
    simp only [List.mem_cons, List.not_mem_nil, or_false] at hm2
    omega
  · rcases List.mem_append.1 hm2 with h3 | h3
    · exact (h5 k hk).2 h3
    · have := hF k hk
      simp only [List.mem_cons, List.not_mem_nil, or_false] at h3
      omega
  · rcases List.mem_append.1 hk with h3 | h3
    · exact h6 k h3
    · simp only [List.mem_cons, List.not_mem_nil, or_false] at h3
      omega
def newX (f n : Nat) : SecD := ⟨f, n, [], 0, 0⟩

section
variable {B : Nat} {P : List Nat → World → Prop} (hP : Fixed P) {b : Nat} {d : DevD} {w : World} (h : One B P b d w)
include hP h

set_option maxRecDepth 100000 in
set_option maxHeartbeats 2000000 in
theorem open_ok (f n : Nat) (h2n : 2 ≤ n) (hfn : f + n ≤ devSize d 1) (hds : devSize d 1 ≤ 512) (hK : Kt w) (hB : 0 < B) (hT : ∀ l, (tellD d l).size ≤ 1000000) :
    Calls Tryd.prog 10 #[.pointer (some ⟨b, 0, none⟩), .int .i64 f, .int .i64 n] w fun e w' => ∃ s, e = .returned (.pointer (some ⟨s, 0, none⟩)) ∧ One B (Both P (ScF s b (recX d (newX f n)))) b d w' ∧ Below B w w' := by
  have HO := Lib.hid h
  have HP := Lib.hid hP
  have HK := Lib.hid hK
  have HBP := Lib.hid hB
  have HT := Lib.hid hT
  have HN : Hid (2 ≤ n ∧ n ≤ 512 ∧ f ≤ 512) := ⟨h2n, by omega, by omega⟩
  have HSZ := Lib.hid (one_size h 1)
  obtain ⟨z, hz⟩ : ∃ z, z = devSize d 1 := ⟨_, rfl⟩
  rw [← hz] at HSZ hfn hds
  have d0 : ¬ (f : Int) < 0 := by omega
  have d1 : ¬ (n : Int) < 2 := by omega
  have hw : wrap64 ((z : Int) - (n : Int)) = (z : Int) - n := IntWalk.wrap64_in _ (by omega)
  have hi : IntKind.i64.wrap ((z : Int) - (n : Int)) = (z : Int) - n := IntWalk.i64_in _ ⟨by omega, by omega⟩
  have d2 : ¬ ((z : Int) - (n : Int)) < (f : Int) := by omega
  have hmm := @run_makeMap Tryd.prog
  clear hz h hP h2n hfn hds hK hB hT
  go_enter Tryd.func10, Tryd.ntmps10
  go_wp2_with fail
  refine HSZ.out.mono ?_
  rintro e w' ⟨rfl, rfl⟩
  go_wp2_with fail
  have hb0 : Below w.heap.size w ((w.alloc (.map #[] 0)).alloc (.cells (secC b w.heap.size (newX f n)) 62)) := ((Below.refl _ w).alloc (Nat.le_refl _) _).alloc (by rw [size_alloc]; omega) _
  have hbx := Box.new (w.alloc (.map #[] 0)) 62 (secC b w.heap.size (newX f n))
  rw [size_alloc] at hbx
  have hm0 : EnAt ((w.alloc (.map #[] 0)).alloc (.cells (secC b w.heap.size (newX f n)) 62)) w.heap.size [] := by
    have h1 : EnAt (w.alloc (.map #[] 0)) w.heap.size [] := ⟨.map [], World.ownsMap_made w _ _ _, EnIs.nil⟩
    exact h1.keep ((Below.refl _ _).alloc (Nat.le_refl _) _)
  have hs1 : SecAt ((w.alloc (.map #[] 0)).alloc (.cells (secC b w.heap.size (newX f n)) 62)) (w.heap.size + 1) b w.heap.size (newX f n) := ⟨hbx, hm0, by omega⟩
  have ho1 := HO.out.addSc HP.out hb0 hs1 (by omega) (Nat.le_refl _)
  have hb1 := hb0.mono HO.out.1
  have HRC := Lib.hid (recall_any HP.out ho1 HN.out.2.2 HN.out.2.1 HN.out.1 (HK.out.below hb1 HBP.out) HBP.out HT.out (Nat.zero_le _))
  have HB1 := Lib.hid hb1
  clear hb0 hbx hm0 hs1 ho1 hb1
  refine HRC.out.mono ?_
  rintro e w2 ⟨rfl, ho2, hb2⟩
  have HO2 := Lib.hid ho2
  have HB2 := Lib.hid (HB1.out.trans hb2)
  clear ho2 hb2 HRC HB1
  go_wp2
  go_ret
  exact ⟨_, rfl, HO2.out, HB2.out⟩

set_option maxRecDepth 100000 in
omit hP in
theorem open_far (f n : Nat) (h2n : 2 ≤ n) (hfn : devSize d 1 < f + n) (hn : n ≤ 10000) (hf : f ≤ 10000) (hds : devSize d 1 ≤ 512) :
    Calls Tryd.prog 10 #[.pointer (some ⟨b, 0, none⟩), .int .i64 f, .int .i64 n] w fun e w' => e = .returned (.pointer none) ∧ w = w' := by
  have HSZ := Lib.hid (one_size h 1)
  obtain ⟨z, hz⟩ : ∃ z, z = devSize d 1 := ⟨_, rfl⟩
  rw [← hz] at HSZ hfn hds
  have d0 : ¬ (f : Int) < 0 := by omega
  have d1 : ¬ (n : Int) < 2 := by omega
  have hw : wrap64 ((z : Int) - (n : Int)) = (z : Int) - n := IntWalk.wrap64_in _ (by omega)
  have hi : IntKind.i64.wrap ((z : Int) - (n : Int)) = (z : Int) - n := IntWalk.i64_in _ ⟨by omega, by omega⟩
  have d2 : ((z : Int) - (n : Int)) < (f : Int) := by omega
  clear hz h h2n hfn hds hn hf
  go_enter Tryd.func10, Tryd.ntmps10
  go_wp2_with fail
  refine HSZ.out.mono ?_
  rintro e w' ⟨rfl, rfl⟩
  go_wp2
  go_ret
  exact ⟨rfl, rfl⟩
end

set_option maxRecDepth 100000 in
theorem open_none (w : World) : Calls Tryd.prog 10 #[.pointer none, .int .i64 0, .int .i64 4] w fun e w' => e = .returned (.pointer none) ∧ w = w' := by
  go_enter Tryd.func10, Tryd.ntmps10
  go_wp2_with fail
  refine (dsize_nil 1 _).mono ?_
  rintro e w' ⟨rfl, rfl⟩
  go_wp2
  go_ret
  exact ⟨rfl, rfl⟩
end Go.Proofs.YtopinlnjdgedeaaDoor

namespace Go.Proofs.YtopinlnjdgedeaaDoor
open Go.RowKit

theorem take_mem {α : Type} (l : List α) (k : Nat) (h : k < l.length) : l[k] ∈ l.take (k + 1) := by
  rw [List.take_succ_eq_append_getElem h]
  exact List.mem_append_right _ (List.mem_singleton.2 rfl)
theorem chkD_congr {d d' : DevD} (l : Int × Int) (n : Nat) (hs : ∀ dev, devSize d dev = devSize d' dev) (hl : ∀ dev, devLost d dev = devLost d' dev) : chkD d l n = chkD d' l n := by
  unfold chkD
  rw [hs, hl]
theorem lost_setTell (d : DevD) (l : Int × Int) (s : ByteArray) (dev : Int) : devLost (setTell d l s) dev = devLost d dev := by
  by_cases h : l.1 = 0 <;> simp [setTell, devLost, h]
theorem lost_setHas (d : DevD) (l : Int × Int) (s : ByteArray) (dev : Int) : devLost (setHas d l s) dev = devLost d dev := by
  by_cases h : l.1 = 0 <;> simp [setHas, devLost, h]
theorem size_writeD (d : DevD) (l : Int × Int) (s : ByteArray) (dev : Int) : devSize (writeD d l s) dev = devSize d dev := by
  unfold writeD
  split
  · exact size_setTell d l s dev
  · rfl
theorem lost_writeD (d : DevD) (l : Int × Int) (s : ByteArray) (dev : Int) : devLost (writeD d l s) dev = devLost d dev := by
  unfold writeD
  split
  · exact lost_setTell d l s dev
  · rfl
theorem setTell_has (d : DevD) (l : Int × Int) (s : ByteArray) : (setTell d l s).s0.has = d.s0.has ∧ (setTell d l s).s1.has = d.s1.has ∧ (setTell d l s).waits = d.waits := by
  by_cases h : l.1 = 0 <;> simp [setTell, h]
theorem writeD_has (d : DevD) (l : Int × Int) (s : ByteArray) : (writeD d l s).s0.has = d.s0.has ∧ (writeD d l s).s1.has = d.s1.has := by
  unfold writeD
  split
  · exact ⟨(setTell_has d l s).1, (setTell_has d l s).2.1⟩
  · exact ⟨rfl, rfl⟩
theorem writeD_waits (d : DevD) (l : Int × Int) (s : ByteArray) : (writeD d l s).waits = if chkD d l s.size = 0 then d.waits ++ [(l, s)] else d.waits := by
  unfold writeD
  split <;> rfl
theorem writeD_len (d : DevD) (l : Int × Int) (s : ByteArray) : (writeD d l s).waits.length ≤ d.waits.length + 1 := by
  rw [writeD_waits]
  split <;> simp
theorem lost_foldHas (l : List WrD) (dev : Int) : ∀ d : DevD, devLost (foldHas d l) dev = devLost d dev := by
  induction l with
  | nil => intro d; rfl
  | cons x l ih =>
    intro d
    show devLost (foldHas (setHas d x.1 x.2) l) dev = _
    rw [ih, lost_setHas]
theorem size_endD (d : DevD) (l : List WrD) (dev : Int) : devSize (endD d l) dev = devSize d dev := by
  rw [← size_foldHas l dev d]
  rfl
theorem lost_endD (d : DevD) (l : List WrD) (dev : Int) : devLost (endD d l) dev = devLost d dev := by
  rw [← lost_foldHas l dev d]
  rfl
/-- What a sector has. -/
def hasAt (d : DevD) (l : Int × Int) : ByteArray := (sideOf d l.1).has.getD l.2.toNat ⟨#[]⟩
theorem tell_endD (d : DevD) (l : List WrD) (x : Int × Int) (h : chkD d x 0 = 0) : tellD (endD d l) x = hasAt (foldHas d l) x := by
  unfold tellD
  rw [if_pos (by rw [chkD_congr x 0 (size_endD d l) (lost_endD d l)]; exact h)]
  have hd := (chkD_ok h).1
  unfold hasAt sideOf
  rcases hd with e | e <;> rw [e] <;> rfl
theorem setHas_side (d : DevD) (x : Int × Int) (s : ByteArray) (hx : locOk d x) (dev : Int) (hd : dev = 0 ∨ dev = 1) : (sideOf (setHas d x s) dev).has = if x.1 = dev then (sideOf d dev).has.set x.2.toNat s else (sideOf d dev).has := by
  have h1 := hx.1
  rcases h1 with e | e <;> rcases hd with rfl | rfl <;> simp [setHas, sideOf, e]
theorem size_side (d : DevD) (dev : Int) (hd : dev = 0 ∨ dev = 1) : devSize d dev = (sideOf d dev).has.length := by
  rcases hd with rfl | rfl <;> rfl
theorem hasAt_set (d : DevD) (x : Int × Int) (s : ByteArray) (l : Int × Int) (hx : locOk d x) (hl : locOk d l) : hasAt (setHas d x s) l = if x = l then s else hasAt d l := by
  unfold hasAt
  rw [setHas_side d x s hx l.1 hl.1]
  obtain ⟨x1, x2⟩ := x
  obtain ⟨l1, l2⟩ := l
  obtain ⟨hl1, hl2, hl3⟩ := hl
  obtain ⟨hx1, hx2, hx3⟩ := hx
  simp only at *
  by_cases h1 : x1 = l1
  · subst h1
    rw [if_pos rfl]
    by_cases h2 : x2 = l2
    · subst h2
      rw [if_pos rfl, List.getD, List.getElem?_set_self (by rw [size_side d x1 hx1] at hx3; omega)]
      rfl
    · rw [if_neg (by simpa using h2), List.getD, List.getElem?_set_ne (by omega)]
      rfl
  · rw [if_neg h1, if_neg (by simp [h1])]
theorem hasAt_fold' (l : Int × Int) (ws : List WrD) (d : DevD) (hl : locOk d l) (hw : ∀ x ∈ ws, locOk d x.1) : ∀ k, k ≤ ws.length → hasAt (foldHas d (ws.take k)) l = hasAt d l ∨ ∃ x ∈ ws.take k, x.1 = l ∧ x.2 = hasAt (foldHas d (ws.take k)) l
  | 0, _ => .inl rfl
  | k + 1, hk => by
    have hlo : ∀ y, locOk d y → locOk (foldHas d (ws.take k)) y := fun y hy => by unfold locOk at *; rw [size_foldHas]; exact hy
    have ht := List.take_succ_eq_append_getElem (l := ws) (i := k) (by omega)
    rw [ht, foldHas_snoc, hasAt_set _ _ _ _ (hlo _ (hw _ (List.getElem_mem (by omega)))) (hlo _ hl)]
    by_cases h : (ws[k]).1 = l
    · rw [if_pos h]
      exact .inr ⟨ws[k], List.mem_append_right _ (List.mem_singleton.2 rfl), h, rfl⟩
    · rw [if_neg h]
      rcases hasAt_fold' l ws d hl hw k (by omega) with h1 | ⟨y, h1, h2, h3⟩
      · exact .inl h1
      · exact .inr ⟨y, List.mem_append_left _ h1, h2, h3⟩
theorem hasAt_fold (l : Int × Int) (ws : List WrD) (d : DevD) (hl : locOk d l) (hw : ∀ x ∈ ws, locOk d x.1) : hasAt (foldHas d ws) l = hasAt d l ∨ ∃ x ∈ ws, x.1 = l ∧ x.2 = hasAt (foldHas d ws) l := by
  have := hasAt_fold' l ws d hl hw ws.length (Nat.le_refl _)
  rwa [List.take_of_length_le (Nat.le_refl _)] at this

/-- The devices of DevOrder behind k writes; the text that shall stand. -/
def ordD (l : List ByteArray) (k : Nat) : DevD := (l.take k).foldl (fun d s => writeD d (0, 2) s) (newD 5 5)
def wantL (l : List ByteArray) (keep : List Bool) : Nat → ByteArray
  | 0 => ⟨#[]⟩
  | k + 1 => if keep.getD k false = true then l.getD k ⟨#[]⟩ else wantL l keep k
theorem ordD_succ (l : List ByteArray) (k : Nat) (hk : k < l.length) : ordD l (k + 1) = writeD (ordD l k) (0, 2) l[k] := by
  unfold ordD
  rw [List.take_succ_eq_append_getElem hk, List.foldl_append]
  rfl
theorem ordD_is (l : List ByteArray) : ∀ k, k ≤ l.length → (∀ s ∈ l.take k, s.size ≤ 1024) → (∀ dev, devSize (ordD l k) dev = devSize (newD 5 5) dev) ∧ (∀ dev, devLost (ordD l k) dev = devLost (newD 5 5) dev) ∧
    (ordD l k).s0.has = List.replicate 5 emp ∧ (ordD l k).s1.has = List.replicate 5 emp ∧ (ordD l k).waits = (l.take k).map fun s => ((0, 2), s)
  | 0, _, _ => ⟨fun _ => rfl, fun _ => rfl, rfl, rfl, rfl⟩
  | k + 1, hk, hs => by
    obtain ⟨h1, h2, h3, h4, h5⟩ := ordD_is l k (by omega) (fun s h => hs s (by rw [List.take_succ_eq_append_getElem (by omega)]; exact List.mem_append_left _ h))
    have hsz : l[k].size ≤ 1024 := hs _ (take_mem l k (by omega))
    rw [ordD_succ l k (by omega)]
    have hc : chkD (ordD l k) (0, 2) l[k].size = 0 := by
      rw [chkD_congr _ _ h1 h2]
      unfold chkD
      rw [if_neg (by
        have : devSize (newD 5 5) 0 = 5 := rfl
        simp only
        omega)]
      rfl
    refine ⟨fun dev => by rw [size_writeD, h1], fun dev => by rw [lost_writeD, h2], by rw [(writeD_has _ _ _).1, h3], by rw [(writeD_has _ _ _).2, h4], ?_⟩
    rw [writeD_waits, if_pos hc, h5, List.take_succ_eq_append_getElem (by omega), List.map_append]
    rfl
theorem want_has (l : List ByteArray) (keep : List Bool) (d : DevD) (h1 : ∀ dev, devSize d dev = devSize (newD 5 5) dev) (h3 : d.s0.has = List.replicate 5 emp) (h5 : d.waits = l.map fun s => ((0, 2), s)) :
    ∀ k, k ≤ l.length → hasAt (foldHas d (keptN d.waits keep k)) (0, 2) = wantL l keep k
  | 0, _ => by
    show hasAt d (0, 2) = _
    unfold hasAt sideOf
    simp only [if_true]
    rw [h3]
    rfl
  | k + 1, hk => by
    have ih := want_has l keep d h1 h3 h5 k (by omega)
    have hwl : k < d.waits.length := by rw [h5, List.length_map]; omega
    have hlo : ∀ d' : DevD, (∀ dev, devSize d' dev = devSize d dev) → locOk d' (0, 2) := fun d' hd => by
      unfold locOk
      rw [hd, h1]
      exact ⟨.inl rfl, by decide, by decide⟩
    unfold wantL
    by_cases hq : keep.getD k false = true
    · rw [if_pos hq, keptN_yes _ _ _ hwl hq, foldHas_snoc]
      have hx : d.waits[k] = ((0, 2), l[k]) := by simp [h5]
      rw [hx, hasAt_set _ _ _ _ (hlo _ (size_foldHas _ · d)) (hlo _ (size_foldHas _ · d)), if_pos rfl, List.getD, List.getElem?_eq_getElem (by omega)]
      rfl
    · rw [if_neg hq, keptN_no _ _ _ (by simpa using hq), ih]
theorem ord_tell (l : List ByteArray) (keep : List Bool) (hs : ∀ s ∈ l, s.size ≤ 1024) : chkD (crashD (ordD l l.length) keep) (0, 2) 0 = 0 ∧ tellD (crashD (ordD l l.length) keep) (0, 2) = wantL l keep l.length := by
  obtain ⟨h1, h2, h3, h4, h5⟩ := ordD_is l l.length (Nat.le_refl _) (by rw [List.take_of_length_le (Nat.le_refl _)]; exact hs)
  rw [List.take_of_length_le (Nat.le_refl _)] at h5
  have hc : chkD (ordD l l.length) (0, 2) 0 = 0 := by
    rw [chkD_congr _ _ h1 h2]
    decide
  refine ⟨?_, ?_⟩
  · exact (chkD_congr _ _ (size_endD _ _) (lost_endD _ _)).trans hc
  · show tellD (endD _ _) _ = _
    rw [tell_endD _ _ _ hc]
    have h6 := want_has l keep _ h1 h3 h5 l.length (Nat.le_refl _)
    rw [← h6]
    unfold keptL keptN
    rw [h5, List.length_map]
end Go.Proofs.YtopinlnjdgedeaaDoor
