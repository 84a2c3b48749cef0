/-
  What devices tell behind several calls: plain mathematics.
-/
import Derived.Test.YtflobdhhjfpcdaaDevOne
namespace Go.Proofs.Ytflobdhhjfpcdaa
open Go.RowKit

theorem take_mem {α : Type} (l : List α) (k : Nat) (h : k < l.length) : l[k] ∈ l.take (k + 1) := by
  rw [List.take_succ_eq_append_getElem h]
  exact List.mem_append_right _ (List.mem_singleton.2 rfl)
theorem chkD_congr {d d' : DevD} (l : Int × Int) (n : Nat) (hs : ∀ dev, devSize d dev = devSize d' dev) (hl : ∀ dev, devLost d dev = devLost d' dev) : chkD d l n = chkD d' l n := by
  unfold chkD
  rw [hs, hl]
theorem lost_setTell (d : DevD) (l : Int × Int) (s : ByteArray) (dev : Int) : devLost (setTell d l s) dev = devLost d dev := by
  by_cases h : l.1 = 0 <;> simp [setTell, devLost, h]
theorem lost_setHas (d : DevD) (l : Int × Int) (s : ByteArray) (dev : Int) : devLost (setHas d l s) dev = devLost d dev := by
  by_cases h : l.1 = 0 <;> simp [setHas, devLost, h]
theorem size_writeD (d : DevD) (l : Int × Int) (s : ByteArray) (dev : Int) : devSize (writeD d l s) dev = devSize d dev := by
  unfold writeD
  split
  · exact size_setTell d l s dev
  · rfl
theorem lost_writeD (d : DevD) (l : Int × Int) (s : ByteArray) (dev : Int) : devLost (writeD d l s) dev = devLost d dev := by
  unfold writeD
  split
  · exact lost_setTell d l s dev
  · rfl
theorem setTell_has (d : DevD) (l : Int × Int) (s : ByteArray) : (setTell d l s).s0.has = d.s0.has ∧ (setTell d l s).s1.has = d.s1.has ∧ (setTell d l s).waits = d.waits := by
  by_cases h : l.1 = 0 <;> simp [setTell, h]
theorem writeD_has (d : DevD) (l : Int × Int) (s : ByteArray) : (writeD d l s).s0.has = d.s0.has ∧ (writeD d l s).s1.has = d.s1.has := by
  unfold writeD
  split
  · exact ⟨(setTell_has d l s).1, (setTell_has d l s).2.1⟩
  · exact ⟨rfl, rfl⟩
theorem writeD_waits (d : DevD) (l : Int × Int) (s : ByteArray) : (writeD d l s).waits = if chkD d l s.size = 0 then d.waits ++ [(l, s)] else d.waits := by
  unfold writeD
  split <;> rfl
theorem writeD_len (d : DevD) (l : Int × Int) (s : ByteArray) : (writeD d l s).waits.length ≤ d.waits.length + 1 := by
  rw [writeD_waits]
  split <;> simp
theorem lost_foldHas (l : List WrD) (dev : Int) : ∀ d : DevD, devLost (foldHas d l) dev = devLost d dev := by
  induction l with
  | nil => intro d; rfl
  | cons x l ih =>
    intro d
    show devLost (foldHas (setHas d x.1 x.2) l) dev = _
    rw [ih, lost_setHas]
theorem size_endD (d : DevD) (l : List WrD) (dev : Int) : devSize (endD d l) dev = devSize d dev := by
  rw [← size_foldHas l dev d]
  rfl
theorem lost_endD (d : DevD) (l : List WrD) (dev : Int) : devLost (endD d l) dev = devLost d dev := by
  rw [← lost_foldHas l dev d]
  rfl
/-- What a sector has. -/
def hasAt (d : DevD) (l : Int × Int) : ByteArray := (sideOf d l.1).has.getD l.2.toNat ⟨#[]⟩
theorem tell_endD (d : DevD) (l : List WrD) (x : Int × Int) (h : chkD d x 0 = 0) : tellD (endD d l) x = hasAt (foldHas d l) x := by
  unfold tellD
  rw [if_pos (by rw [chkD_congr x 0 (size_endD d l) (lost_endD d l)]; exact h)]
  have hd := (chkD_ok h).1
  unfold hasAt sideOf
  rcases hd with e | e <;> rw [e] <;> rfl
theorem setHas_side (d : DevD) (x : Int × Int) (s : ByteArray) (hx : locOk d x) (dev : Int) (hd : dev = 0 ∨ dev = 1) : (sideOf (setHas d x s) dev).has = if x.1 = dev then (sideOf d dev).has.set x.2.toNat s else (sideOf d dev).has := by
  have h1 := hx.1
  rcases h1 with e | e <;> rcases hd with rfl | rfl <;> simp [setHas, sideOf, e]
theorem size_side (d : DevD) (dev : Int) (hd : dev = 0 ∨ dev = 1) : devSize d dev = (sideOf d dev).has.length := by
  rcases hd with rfl | rfl <;> rfl
theorem hasAt_set (d : DevD) (x : Int × Int) (s : ByteArray) (l : Int × Int) (hx : locOk d x) (hl : locOk d l) : hasAt (setHas d x s) l = if x = l then s else hasAt d l := by
  unfold hasAt
  rw [setHas_side d x s hx l.1 hl.1]
  obtain ⟨x1, x2⟩ := x
  obtain ⟨l1, l2⟩ := l
  obtain ⟨hl1, hl2, hl3⟩ := hl
  obtain ⟨hx1, hx2, hx3⟩ := hx
  simp only at *
  by_cases h1 : x1 = l1
  · subst h1
    rw [if_pos rfl]
    by_cases h2 : x2 = l2
    · subst h2
      rw [if_pos rfl, List.getD, List.getElem?_set_self (by rw [size_side d x1 hx1] at hx3; omega)]
      rfl
    · rw [if_neg (by simpa using h2), List.getD, List.getElem?_set_ne (by omega)]
      rfl
  · rw [if_neg h1, if_neg (by simp [h1])]
theorem hasAt_fold' (l : Int × Int) (ws : List WrD) (d : DevD) (hl : locOk d l) (hw : ∀ x ∈ ws, locOk d x.1) : ∀ k, k ≤ ws.length → hasAt (foldHas d (ws.take k)) l = hasAt d l ∨ ∃ x ∈ ws.take k, x.1 = l ∧ x.2 = hasAt (foldHas d (ws.take k)) l
  | 0, _ => .inl rfl
  | k + 1, hk => by
    have hlo : ∀ y, locOk d y → locOk (foldHas d (ws.take k)) y := fun y hy => by unfold locOk at *; rw [size_foldHas]; exact hy
    have ht := List.take_succ_eq_append_getElem (l := ws) (i := k) (by omega)
    rw [ht, foldHas_snoc, hasAt_set _ _ _ _ (hlo _ (hw _ (List.getElem_mem (by omega)))) (hlo _ hl)]
    by_cases h : (ws[k]).1 = l
    · rw [if_pos h]
      exact .inr ⟨ws[k], List.mem_append_right _ (List.mem_singleton.2 rfl), h, rfl⟩
    · rw [if_neg h]
      rcases hasAt_fold' l ws d hl hw k (by omega) with h1 | ⟨y, h1, h2, h3⟩
      · exact .inl h1
      · exact .inr ⟨y, List.mem_append_left _ h1, h2, h3⟩
theorem hasAt_fold (l : Int × Int) (ws : List WrD) (d : DevD) (hl : locOk d l) (hw : ∀ x ∈ ws, locOk d x.1) : hasAt (foldHas d ws) l = hasAt d l ∨ ∃ x ∈ ws, x.1 = l ∧ x.2 = hasAt (foldHas d ws) l := by
  have := hasAt_fold' l ws d hl hw ws.length (Nat.le_refl _)
  rwa [List.take_of_length_le (Nat.le_refl _)] at this

/-- The devices of DevOrder behind k writes; the text that shall stand. -/
def ordD (l : List ByteArray) (k : Nat) : DevD := (l.take k).foldl (fun d s => writeD d (0, 2) s) (newD 5 5)
def wantL (l : List ByteArray) (keep : List Bool) : Nat → ByteArray
  | 0 => ⟨#[]⟩
  | k + 1 => if keep.getD k false = true then l.getD k ⟨#[]⟩ else wantL l keep k
theorem ordD_succ (l : List ByteArray) (k : Nat) (hk : k < l.length) : ordD l (k + 1) = writeD (ordD l k) (0, 2) l[k] := by
  unfold ordD
  rw [List.take_succ_eq_append_getElem hk, List.foldl_append]
  rfl
theorem ordD_is (l : List ByteArray) : ∀ k, k ≤ l.length → (∀ s ∈ l.take k, s.size ≤ 1024) → (∀ dev, devSize (ordD l k) dev = devSize (newD 5 5) dev) ∧ (∀ dev, devLost (ordD l k) dev = devLost (newD 5 5) dev) ∧
    (ordD l k).s0.has = List.replicate 5 emp ∧ (ordD l k).s1.has = List.replicate 5 emp ∧ (ordD l k).waits = (l.take k).map fun s => ((0, 2), s)
  | 0, _, _ => ⟨fun _ => rfl, fun _ => rfl, rfl, rfl, rfl⟩
  | k + 1, hk, hs => by
    obtain ⟨h1, h2, h3, h4, h5⟩ := ordD_is l k (by omega) (fun s h => hs s (by rw [List.take_succ_eq_append_getElem (by omega)]; exact List.mem_append_left _ h))
    have hsz : l[k].size ≤ 1024 := hs _ (take_mem l k (by omega))
    rw [ordD_succ l k (by omega)]
    have hc : chkD (ordD l k) (0, 2) l[k].size = 0 := by
      rw [chkD_congr _ _ h1 h2]
      unfold chkD
      rw [if_neg (by
        have : devSize (newD 5 5) 0 = 5 := rfl
        simp only
        omega)]
      rfl
    refine ⟨fun dev => by rw [size_writeD, h1], fun dev => by rw [lost_writeD, h2], by rw [(writeD_has _ _ _).1, h3], by rw [(writeD_has _ _ _).2, h4], ?_⟩
    rw [writeD_waits, if_pos hc, h5, List.take_succ_eq_append_getElem (by omega), List.map_append]
    rfl
theorem want_has (l : List ByteArray) (keep : List Bool) (d : DevD) (h1 : ∀ dev, devSize d dev = devSize (newD 5 5) dev) (h3 : d.s0.has = List.replicate 5 emp) (h5 : d.waits = l.map fun s => ((0, 2), s)) :
    ∀ k, k ≤ l.length → hasAt (foldHas d (keptN d.waits keep k)) (0, 2) = wantL l keep k
  | 0, _ => by
    show hasAt d (0, 2) = _
    unfold hasAt sideOf
    simp only [if_true]
    rw [h3]
    rfl
  | k + 1, hk => by
    have ih := want_has l keep d h1 h3 h5 k (by omega)
    have hwl : k < d.waits.length := by rw [h5, List.length_map]; omega
    have hlo : ∀ d' : DevD, (∀ dev, devSize d' dev = devSize d dev) → locOk d' (0, 2) := fun d' hd => by
      unfold locOk
      rw [hd, h1]
      exact ⟨.inl rfl, by decide, by decide⟩
    unfold wantL
    by_cases hq : keep.getD k false = true
    · rw [if_pos hq, keptN_yes _ _ _ hwl hq, foldHas_snoc]
      have hx : d.waits[k] = ((0, 2), l[k]) := by simp [h5]
      rw [hx, hasAt_set _ _ _ _ (hlo _ (size_foldHas _ · d)) (hlo _ (size_foldHas _ · d)), if_pos rfl, List.getD, List.getElem?_eq_getElem (by omega)]
      rfl
    · rw [if_neg hq, keptN_no _ _ _ (by simpa using hq), ih]
theorem ord_tell (l : List ByteArray) (keep : List Bool) (hs : ∀ s ∈ l, s.size ≤ 1024) : chkD (crashD (ordD l l.length) keep) (0, 2) 0 = 0 ∧ tellD (crashD (ordD l l.length) keep) (0, 2) = wantL l keep l.length := by
  obtain ⟨h1, h2, h3, h4, h5⟩ := ordD_is l l.length (Nat.le_refl _) (by rw [List.take_of_length_le (Nat.le_refl _)]; exact hs)
  rw [List.take_of_length_le (Nat.le_refl _)] at h5
  have hc : chkD (ordD l l.length) (0, 2) 0 = 0 := by
    rw [chkD_congr _ _ h1 h2]
    decide
  refine ⟨?_, ?_⟩
  · exact (chkD_congr _ _ (size_endD _ _) (lost_endD _ _)).trans hc
  · show tellD (endD _ _) _ = _
    rw [tell_endD _ _ _ hc]
    have h6 := want_has l keep _ h1 h3 h5 l.length (Nat.le_refl _)
    rw [← h6]
    unfold keptL keptN
    rw [h5, List.length_map]
end Go.Proofs.Ytflobdhhjfpcdaa
