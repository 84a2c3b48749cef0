/-
  A heat's counts as plain data; the map in which they lie.
-/
import Derived.Test.YtgdlnifncmiebaaHeatD
import Derived.Test.YtgdlnifncmiebaaHeatH
import Derived.Test.YtgdlnifncmiebaaHeatS
import Derived.Test.YtgdlnifncmiebaaKeysS
import Derived.Test.YtgdlnifncmiebaaHeldM
import Derived.Maps.OwnSet
import Derived.Maps.RangeWalk
namespace Go.Proofs.Ytgdlnifncmiebaa
open Go.RowKit Go.ChangeShapes Go.WideShapes Go.ChangeAt

/-- A key, its count, its tick. -/
abbrev MkD := ByteArray × Int × Int
def dM (c t : Int) : DataW Unit := .agg [.lit (.int .i64 c), .lit (.int .i64 t)]
def markR : Value → Option (DataW Unit × List MemPlace)
  | .agg ⟨[.int .i64 c, .int .i64 t]⟩ => some (dM c t, [])
  | _ => none
theorem markR_mk (c t : Int) : markR (.agg #[.int .i64 c, .int .i64 t]) = some (dM c t, []) := rfl
theorem markR_inv {v : Value} {y : DataW Unit × List MemPlace} (h : markR v = some y) : ∃ m : Int × Int, v = .agg #[.int .i64 m.1, .int .i64 m.2] ∧ y = (dM m.1 m.2, []) := by
  unfold markR at h
  split at h
  · cases h; exact ⟨(_, _), rfl, rfl⟩
  · cases h
theorem dM_inj {c t c' t' : Int} (h : dM c t = dM c' t') : c = c' ∧ t = t' := by
  unfold dM at h
  simp at h
  exact h
def kl (k : ByteArray) : Lit := .string k.data.toList
theorem kl_inj {k k' : ByteArray} (h : kl k = kl k') : k = k' := by
  unfold kl at h
  have h2 : k.data = k'.data := Array.toList_inj.1 (by simpa using h)
  cases k; cases k'; simp_all
theorem kl_ne {k k' : ByteArray} (h : k ≠ k') : kl k ≠ kl k' := fun e => h (kl_inj e)
theorem sameKey_kl (k k' : ByteArray) : (kl k).sameKey (kl k') = decide (k = k') := by
  by_cases h : k = k'
  · subst h
    rw [decide_eq_true rfl]
    simp [Lit.sameKey, kl]
  · rw [decide_eq_false h]
    exact Maps.sameKey_ne (kl_ne h)
theorem keyedS : Maps.Keyed Try.prog 9 := Maps.string_keyed Try.underlying9
theorem keyOfS {k : ByteArray} (hk : k.size ≤ maxLen) : keyOf Try.prog 9 (.string k) = some (kl k) := WideMaps.keyOf_string_mk Try.underlying9 hk
theorem keyInvS {v : Value} {l : Lit} (h : keyOf Try.prog 9 v = some l) : ∃ k : ByteArray, v = .string k ∧ l = kl k ∧ k.size ≤ maxLen := by
  have hk := Try.underlying9
  cases v <;> simp [keyOf, hk, mapKey] at h
  rename_i k
  obtain ⟨h1, rfl⟩ := h
  exact ⟨k, rfl, rfl, h1⟩
theorem isKl {k : ByteArray} (hk : k.size ≤ maxLen) : WideAt.IsKeyLit (kl k) := keyedS.key (keyOfS hk)
theorem zeroMk (w : World) : (zeroValue 51).run Try.prog w = .ok (.agg #[.int .i64 0, .int .i64 0]) w := by kernel_rfl

def findM (l : List MkD) (k : ByteArray) : Option (Int × Int) := (l.find? (fun x => decide (x.1 = k))).map (·.2)
def forgetM (l : List MkD) (k : ByteArray) : List MkD := l.filter (fun x => !decide (x.1 = k))
def newM (l : List MkD) (k : ByteArray) (now : Int) : Int × Int := match findM l k with
  | none => (16, now)
  | some m => (min (worthOf m.1 m.2 now + 16) 1048576, max m.2 now)
def touchM (l : List MkD) (k : ByteArray) (now : Int) : List MkD := forgetM l k ++ [(k, newM l k now)]
def valueM (l : List MkD) (k : ByteArray) (now : Int) : Int := match findM l k with
  | none => 0
  | some m => worthOf m.1 m.2 now
theorem find_nil (k : ByteArray) : findM [] k = none := rfl
theorem find_cons (x : MkD) (l : List MkD) (k : ByteArray) : findM (x :: l) k = if x.1 = k then some x.2 else findM l k := by
  unfold findM
  rw [List.find?_cons]
  by_cases h : x.1 = k
  · simp [h]
  · simp [h]
theorem find_app (k : ByteArray) : ∀ (l r : List MkD), findM (l ++ r) k = (findM l k).or (findM r k)
  | [], r => by simp [find_nil]
  | x :: l, r => by
    rw [List.cons_append, find_cons, find_cons, find_app k l r]
    split <;> simp
theorem forget_same (k : ByteArray) : ∀ l : List MkD, findM (forgetM l k) k = none
  | [] => rfl
  | x :: l => by
    unfold forgetM
    rw [List.filter_cons]
    by_cases h : x.1 = k
    · simp only [h, decide_true, Bool.not_true, Bool.false_eq_true, if_false]
      exact forget_same k l
    · simp only [h, decide_false, Bool.not_false, if_true]
      rw [find_cons, if_neg h]
      exact forget_same k l
theorem forget_other {k k' : ByteArray} (hne : k' ≠ k) : ∀ l : List MkD, findM (forgetM l k) k' = findM l k'
  | [] => rfl
  | x :: l => by
    unfold forgetM
    rw [List.filter_cons]
    by_cases h : x.1 = k
    · simp only [h, decide_true, Bool.not_true, Bool.false_eq_true, if_false]
      rw [find_cons, if_neg (by rw [h]; exact Ne.symm hne)]
      exact forget_other hne l
    · simp only [h, decide_false, Bool.not_false, if_true]
      rw [find_cons, find_cons]
      rw [show findM (l.filter fun x => !decide (x.1 = k)) k' = findM l k' from forget_other hne l]
theorem touch_same (l : List MkD) (k : ByteArray) (now : Int) : findM (touchM l k now) k = some (newM l k now) := by
  unfold touchM
  rw [find_app, forget_same, find_cons]
  simp
theorem touch_other (l : List MkD) {k k' : ByteArray} (hne : k' ≠ k) (now : Int) : findM (touchM l k now) k' = findM l k' := by
  unfold touchM
  rw [find_app, forget_other hne, find_cons, if_neg (Ne.symm hne)]
  simp [find_nil]
def NoDup (l : List MkD) : Prop := l.Pairwise (fun x y => x.1 ≠ y.1)
theorem NoDup.forget {l : List MkD} (h : NoDup l) (k : ByteArray) : NoDup (forgetM l k) := List.Pairwise.filter _ h
theorem NoDup.touch {l : List MkD} (h : NoDup l) (k : ByteArray) (now : Int) : NoDup (touchM l k now) := by
  unfold touchM NoDup
  rw [List.pairwise_append]
  refine ⟨h.forget k, by simp, ?_⟩
  intro x hx y hy
  simp only [List.mem_singleton] at hy
  subst hy
  unfold forgetM at hx
  simp only [List.mem_filter, Bool.not_eq_true', decide_eq_false_iff_not] at hx
  exact hx.2
theorem find_none {k : ByteArray} : ∀ {l : List MkD}, findM l k = none ↔ ∀ x ∈ l, x.1 ≠ k
  | [] => by simp [find_nil]
  | x :: l => by
    rw [find_cons]
    by_cases h : x.1 = k
    · simp [h]
    · rw [if_neg h, find_none]
      simp [h]
theorem find_mem {k : ByteArray} {m : Int × Int} : ∀ {l : List MkD}, findM l k = some m → (k, m) ∈ l
  | [], h => by cases h
  | x :: l, h => by
    rw [find_cons] at h
    by_cases e : x.1 = k
    · rw [if_pos e] at h
      cases h
      rw [← e]
      exact List.mem_cons_self
    · rw [if_neg e] at h
      exact List.mem_cons_of_mem _ (find_mem h)
theorem find_of_mem {x : MkD} : ∀ {l : List MkD}, NoDup l → x ∈ l → findM l x.1 = some x.2
  | [], _, h => by cases h
  | y :: l, hd, h => by
    rw [find_cons]
    rcases List.mem_cons.1 h with rfl | h2
    · rw [if_pos rfl]
    · rw [if_neg ((List.pairwise_cons.1 hd).1 _ h2)]
      exact find_of_mem (List.pairwise_cons.1 hd).2 h2
theorem forget_len {k : ByteArray} : ∀ {l : List MkD}, NoDup l → (forgetM l k).length + (if (findM l k).isSome = true then 1 else 0) = l.length
  | [], _ => rfl
  | x :: l, hd => by
    have ih := forget_len (k := k) (List.pairwise_cons.1 hd).2
    rw [find_cons]
    by_cases h : x.1 = k
    · rw [if_pos h]
      have hn : findM l k = none := find_none.2 (fun y hy => by rw [← h]; exact Ne.symm ((List.pairwise_cons.1 hd).1 y hy))
      rw [hn] at ih
      simp only [Option.isSome_none, Bool.false_eq_true, if_false, Nat.add_zero] at ih
      unfold forgetM at *
      rw [List.filter_cons]
      simp only [h, decide_true, Bool.not_true, Bool.false_eq_true, if_false, Option.isSome_some, if_true, List.length_cons]
      omega
    · rw [if_neg h]
      unfold forgetM at *
      rw [List.filter_cons]
      simp only [h, decide_false, Bool.not_false, if_true, List.length_cons]
      omega
theorem forget_le (l : List MkD) (k : ByteArray) : (forgetM l k).length ≤ l.length := List.length_filter_le _ _
theorem touch_len {l : List MkD} (k : ByteArray) (now : Int) : (touchM l k now).length ≤ l.length + 1 := by
  unfold touchM
  have := forget_le l k
  simp
  exact this

/-- What a map reads as, and the counts. -/
structure MapIs (D : DataW Unit) (l : List MkD) : Prop where
  has : ∀ k, Maps.has D (kl k) = (findM l k).isSome
  at_ : ∀ k m, findM l k = some m → ∀ z, D.atKey (kl k) z = dM m.1 m.2
  size : Maps.size D = l.length
  nodup : NoDup l
theorem MapIs.nil : MapIs (.map []) [] := ⟨fun _ => rfl, fun _ _ h => (by cases h), rfl, List.Pairwise.nil⟩
theorem MapIs.atz {D : DataW Unit} {l : List MkD} (h : MapIs D l) (k : ByteArray) (z : DataW Unit) : D.atKey (kl k) z = match findM l k with | none => z | some m => dM m.1 m.2 := by
  cases e : findM l k with
  | none => exact Maps.atKey_of_not_has (by rw [h.has, e]; rfl) z
  | some m => exact h.at_ k m e z
theorem MapIs.put {D : DataW Unit} {l : List MkD} (h : MapIs D l) (hT : Maps.Tidy D) {k : ByteArray} (hk : k.size ≤ maxLen) (now : Int) : MapIs (D.put (kl k) (dM (newM l k now).1 (newM l k now).2)) (touchM l k now) where
  has k' := by
    by_cases e : k' = k
    · subst e
      rw [Maps.has_put_same hT.isMap (isKl hk), touch_same]
      rfl
    · rw [Maps.has_put_other (kl_ne e), touch_other l e, h.has]
  at_ k' m hm z := by
    by_cases e : k' = k
    · subst e
      rw [touch_same] at hm
      cases hm
      exact Maps.atKey_put_same hT.isMap (isKl hk) _ _
    · rw [touch_other l e] at hm
      rw [Maps.atKey_put_other (kl_ne e)]
      exact h.at_ k' m hm z
  size := by
    rw [Maps.size_put hT, h.has, h.size]
    have := forget_len (k := k) h.nodup
    unfold touchM
    rw [List.length_append, List.length_singleton]
    split <;> simp_all
  nodup := h.nodup.touch k now
theorem MapIs.del {D : DataW Unit} {l : List MkD} (h : MapIs D l) (hT : Maps.Tidy D) (k : ByteArray) : MapIs (D.del (kl k)) (forgetM l k) where
  has k' := by
    by_cases e : k' = k
    · subst e
      rw [Maps.has_del_same, forget_same]
      rfl
    · rw [Maps.has_del_other (kl_ne e), forget_other e, h.has]
  at_ k' m hm z := by
    by_cases e : k' = k
    · subst e
      rw [forget_same] at hm
      cases hm
    · rw [forget_other e] at hm
      rw [Maps.atKey_del_other (kl_ne e)]
      exact h.at_ k' m hm z
  size := by
    have h1 := Maps.size_del (k := kl k) hT
    rw [h.has, h.size] at h1
    have := forget_len (k := k) h.nodup
    omega
  nodup := h.nodup.forget k
/-- Block m is the map of the counts l. -/
def MkAt (w : World) (m : Nat) (l : List MkD) : Prop := ∃ D, w.ownsMap Try.prog 9 markR m l.length D ∧ MapIs D l
theorem owns_tight {w : World} {b n : Nat} {D : DataW Unit} (h : w.ownsMap Try.prog 9 markR b n D) : w.ownsMap Try.prog 9 markR b (Maps.size D) D := by
  obtain ⟨es, clock, hb, F, hs, rfl⟩ := h
  refine ⟨es, clock, hb, F, ?_, rfl⟩
  rw [Maps.size_eq, length_sorted]
  simp
theorem MkAt.lt {w : World} {m : Nat} {l : List MkD} (h : MkAt w m l) : m < w.heap.size := by obtain ⟨_, h, _⟩ := h; exact h.lt
theorem MkAt.chg {S : List Nat} {w w' : World} {m : Nat} {l : List MkD} (h : MkAt w m l) (hc : Chg S w w') (hn : m ∉ S) : MkAt w' m l := by
  obtain ⟨D, ⟨es, clock, hb, F, hs, hD⟩, hM⟩ := h
  exact ⟨D, ⟨es, clock, (hc.block m (lt_of_block hb) hn).trans hb, F, hs, hD⟩, hM⟩
/-- Counts that may be. -/
def OkM (l : List MkD) : Prop := l.length ≤ 80000 ∧ ∀ x ∈ l, 0 ≤ x.2.1 ∧ x.2.1 ≤ 1048576 ∧ -9223372036854775808 ≤ x.2.2 ∧ x.2.2 ≤ 9223372036854775807
/-- The heat b, of the counts l; its blocks are F. -/
def HeatF (b : Nat) (l : List MkD) (F : List Nat) (w : World) : Prop := ∃ m, F = [b, m] ∧ b ≠ m ∧ Box w b 49 #[.map (some m)] ∧ MkAt w m l
theorem fixed_heat (b : Nat) (l : List MkD) : Fixed (HeatF b l) := by
  refine ⟨?_, ?_⟩
  · rintro G S w1 w2 ⟨m, rfl, hne, hb, hm⟩ hc hn
    exact ⟨m, rfl, hne, hb.of (hc.block b hb.lt (hn _ (by simp))), hm.chg hc (hn _ (by simp))⟩
  · rintro G w ⟨m, rfl, hne, hb, hm⟩ k hk
    simp only [List.mem_cons, List.not_mem_nil, or_false] at hk
    rcases hk with rfl | rfl
    · exact hb.lt
    · exact hm.lt
end Go.Proofs.Ytgdlnifncmiebaa
