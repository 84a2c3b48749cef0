/-
  The newest entries of places: a map of ints to entries with their blocks' numbers, as plain data; what is merged.
-/
import Derived.Test.YtljjcchdhnficaaDoorMg2
import Derived.Maps.OwnSet
import Derived.Maps.RangeWalk
import Derived.Lib.SlKeysI
namespace Go.Proofs.YtljjcchdhnficaaDoor
open Go.RowKit Go.ChangeShapes Go.WideShapes Go.ChangeAt

/-- A place, its entry, its block's number. -/
abbrev DtD := Int × (CgE × Int)
abbrev dtV (x : CgE) (q : Int) : Value := .agg #[.string x.key, .string x.sum, .int .i64 x.len, .int .i64 x.pos, .int .i64 q]
def dDt (x : CgE) (q : Int) : DataW Unit := .agg [.lit (.string x.key.data.toList), .lit (.string x.sum.data.toList), .lit (.int .i64 x.len), .lit (.int .i64 x.pos), .lit (.int .i64 q)]
def dtR : Value → Option (DataW Unit × List MemPlace)
  | .agg ⟨[.string k, .string s, .int .i64 n, .int .i64 p, .int .i64 q]⟩ => some (dDt ⟨k, s, n, p⟩ q, [])
  | _ => none
theorem dtR_mk (x : CgE) (q : Int) : dtR (dtV x q) = some (dDt x q, []) := rfl
theorem dtR_inv {v : Value} {y : DataW Unit × List MemPlace} (h : dtR v = some y) : ∃ m : CgE × Int, v = dtV m.1 m.2 ∧ y = (dDt m.1 m.2, []) := by
  unfold dtR at h
  split at h
  · cases h; exact ⟨(⟨_, _, _, _⟩, _), rfl, rfl⟩
  · cases h
theorem bytes_list {a b : ByteArray} (h : a.data.toList = b.data.toList) : a = b := ByteArray.ext (Array.toList_inj.1 h)
theorem dDt_inj {x y : CgE} {q r : Int} (h : dDt x q = dDt y r) : x = y ∧ q = r := by
  obtain ⟨x1, x2, x3, x4⟩ := x
  obtain ⟨y1, y2, y3, y4⟩ := y
  unfold dDt at h
  simp only [DataW.agg.injEq, List.cons.injEq, DataW.lit.injEq, Lit.string.injEq, Lit.int.injEq, true_and, and_true] at h
  obtain ⟨h1, h2, rfl, rfl, rfl⟩ := h
  rw [bytes_list h1, bytes_list h2]
  exact ⟨rfl, rfl⟩
def kz (k : Int) : Lit := .int .i64 k
theorem kz_ne {k k' : Int} (h : k ≠ k') : kz k ≠ kz k' := fun e => h (by unfold kz at e; injection e)
theorem keyedZ : Maps.Keyed Tryd.prog 3 := Maps.int_keyed Tryd.underlying3
theorem keyOfZ {k : Int} (hk : (Lit.int .i64 k).wf = true) : keyOf Tryd.prog 3 (.int .i64 k) = some (kz k) := Maps.keyOf_int_mk Tryd.underlying3 hk
theorem isKz {k : Int} (hk : (Lit.int .i64 k).wf = true) : WideAt.IsKeyLit (kz k) := keyedZ.key (keyOfZ hk)
theorem zeroDt (w : World) : (zeroValue 82).run Tryd.prog w = .ok (dtV ⟨⟨#[]⟩, ⟨#[]⟩, 0, 0⟩ 0) w := by kernel_rfl

def findD (l : List DtD) (k : Int) : Option (CgE × Int) := (l.find? (fun x => decide (x.1 = k))).map (·.2)
def forgetD (l : List DtD) (k : Int) : List DtD := l.filter (fun x => !decide (x.1 = k))
def putD (l : List DtD) (k : Int) (v : CgE × Int) : List DtD := forgetD l k ++ [(k, v)]
theorem dfind_nil (k : Int) : findD [] k = none := rfl
theorem dfind_cons (x : DtD) (l : List DtD) (k : Int) : findD (x :: l) k = if x.1 = k then some x.2 else findD l k := by
  unfold findD
  rw [List.find?_cons]
  by_cases h : x.1 = k
  · simp [h]
  · simp [h]
theorem dfind_app (k : Int) : ∀ (l r : List DtD), findD (l ++ r) k = (findD l k).or (findD r k)
  | [], r => by simp [dfind_nil]
  | x :: l, r => by
    rw [List.cons_append, dfind_cons, dfind_cons, dfind_app k l r]
    split <;> simp
theorem dforget_same (k : Int) : ∀ l : List DtD, findD (forgetD l k) k = none
  | [] => rfl
  | x :: l => by
    unfold forgetD
    rw [List.filter_cons]
    by_cases h : x.1 = k
    · simp only [h, decide_true, Bool.not_true, Bool.false_eq_true, if_false]
      exact dforget_same k l
    · simp only [h, decide_false, Bool.not_false, if_true]
      rw [dfind_cons, if_neg h]
      exact dforget_same k l
theorem dforget_other {k k' : Int} (hne : k' ≠ k) : ∀ l : List DtD, findD (forgetD l k) k' = findD l k'
  | [] => rfl
  | x :: l => by
    unfold forgetD
    rw [List.filter_cons]
    by_cases h : x.1 = k
    · simp only [h, decide_true, Bool.not_true, Bool.false_eq_true, if_false]
      rw [dfind_cons, if_neg (by rw [h]; exact Ne.symm hne)]
      exact dforget_other hne l
    · simp only [h, decide_false, Bool.not_false, if_true]
      rw [dfind_cons, dfind_cons]
      rw [show findD (l.filter fun x => !decide (x.1 = k)) k' = findD l k' from dforget_other hne l]
theorem dput_same (l : List DtD) (k : Int) (v : CgE × Int) : findD (putD l k  v) k = some (v) := by
  unfold putD
  rw [dfind_app, dforget_same, dfind_cons]
  simp
theorem dput_other (l : List DtD) {k k' : Int} (hne : k' ≠ k) (v : CgE × Int) : findD (putD l k  v) k' = findD l k' := by
  unfold putD
  rw [dfind_app, dforget_other hne, dfind_cons, if_neg (Ne.symm hne)]
  simp [dfind_nil]
def NoDupD (l : List DtD) : Prop := l.Pairwise (fun x y => x.1 ≠ y.1)
theorem NoDupD.forget {l : List DtD} (h : NoDupD l) (k : Int) : NoDupD (forgetD l k) := List.Pairwise.filter _ h
theorem NoDupD.touch {l : List DtD} (h : NoDupD l) (k : Int) (v : CgE × Int) : NoDupD (putD l k  v) := by
  unfold putD NoDupD
  rw [List.pairwise_append]
  refine ⟨h.forget k, by simp, ?_⟩
  intro x hx y hy
  simp only [List.mem_singleton] at hy
  subst hy
  unfold forgetD at hx
  simp only [List.mem_filter, Bool.not_eq_true', decide_eq_false_iff_not] at hx
  exact hx.2
theorem dfind_none {k : Int} : ∀ {l : List DtD}, findD l k = none ↔ ∀ x ∈ l, x.1 ≠ k
  | [] => by simp [dfind_nil]
  | x :: l => by
    rw [dfind_cons]
    by_cases h : x.1 = k
    · simp [h]
    · rw [if_neg h, dfind_none]
      simp [h]
theorem dfind_mem {k : Int} {m : CgE × Int} : ∀ {l : List DtD}, findD l k = some m → (k, m) ∈ l
  | [], h => by cases h
  | x :: l, h => by
    rw [dfind_cons] at h
    by_cases e : x.1 = k
    · rw [if_pos e] at h
      cases h
      rw [← e]
      exact List.mem_cons_self
    · rw [if_neg e] at h
      exact List.mem_cons_of_mem _ (dfind_mem h)
theorem dfind_of_mem {x : DtD} : ∀ {l : List DtD}, NoDupD l → x ∈ l → findD l x.1 = some x.2
  | [], _, h => by cases h
  | y :: l, hd, h => by
    rw [dfind_cons]
    rcases List.mem_cons.1 h with rfl | h2
    · rw [if_pos rfl]
    · rw [if_neg ((List.pairwise_cons.1 hd).1 _ h2)]
      exact dfind_of_mem (List.pairwise_cons.1 hd).2 h2
theorem dforget_len {k : Int} : ∀ {l : List DtD}, NoDupD l → (forgetD l k).length + (if (findD l k).isSome = true then 1 else 0) = l.length
  | [], _ => rfl
  | x :: l, hd => by
    have ih := dforget_len (k := k) (List.pairwise_cons.1 hd).2
    rw [dfind_cons]
    by_cases h : x.1 = k
    · rw [if_pos h]
      have hn : findD l k = none := dfind_none.2 (fun y hy => by rw [← h]; exact Ne.symm ((List.pairwise_cons.1 hd).1 y hy))
      rw [hn] at ih
      simp only [Option.isSome_none, Bool.false_eq_true, if_false, Nat.add_zero] at ih
      unfold forgetD at *
      rw [List.filter_cons]
      simp only [h, decide_true, Bool.not_true, Bool.false_eq_true, if_false, Option.isSome_some, if_true, List.length_cons]
      omega
    · rw [if_neg h]
      unfold forgetD at *
      rw [List.filter_cons]
      simp only [h, decide_false, Bool.not_false, if_true, List.length_cons]
      omega
theorem dforget_le (l : List DtD) (k : Int) : (forgetD l k).length ≤ l.length := List.length_filter_le _ _
theorem dput_len {l : List DtD} (k : Int) (v : CgE × Int) : (putD l k  v).length ≤ l.length + 1 := by
  unfold putD
  have := dforget_le l k
  simp
  exact this

/-- What a map reads as, and the counts. -/
structure DtIs (D : DataW Unit) (l : List DtD) : Prop where
  has : ∀ k, Maps.has D (kz k) = (findD l k).isSome
  at_ : ∀ k m, findD l k = some m → ∀ z, D.atKey (kz k) z = dDt m.1 m.2
  size : Maps.size D = l.length
  nodup : NoDupD l
theorem DtIs.nil : DtIs (.map []) [] := ⟨fun _ => rfl, fun _ _ h => (by cases h), rfl, List.Pairwise.nil⟩
theorem DtIs.atz {D : DataW Unit} {l : List DtD} (h : DtIs D l) (k : Int) (z : DataW Unit) : D.atKey (kz k) z = match findD l k with | none => z | some m => dDt m.1 m.2 := by
  cases e : findD l k with
  | none => exact Maps.atKey_of_not_has (by rw [h.has, e]; rfl) z
  | some m => exact h.at_ k m e z
theorem DtIs.put {D : DataW Unit} {l : List DtD} (h : DtIs D l) (hT : Maps.Tidy D) {k : Int} (hk : (Lit.int .i64 k).wf = true) (v : CgE × Int) : DtIs (D.put (kz k) (dDt v.1 v.2)) (putD l k  v) where
  has k' := by
    by_cases e : k' = k
    · subst e
      rw [Maps.has_put_same hT.isMap (isKz hk), dput_same]
      rfl
    · rw [Maps.has_put_other (kz_ne e), dput_other l e, h.has]
  at_ k' m hm z := by
    by_cases e : k' = k
    · subst e
      rw [dput_same] at hm
      cases hm
      exact Maps.atKey_put_same hT.isMap (isKz hk) _ _
    · rw [dput_other l e] at hm
      rw [Maps.atKey_put_other (kz_ne e)]
      exact h.at_ k' m hm z
  size := by
    rw [Maps.size_put hT, h.has, h.size]
    have := dforget_len (k := k) h.nodup
    unfold putD
    rw [List.length_append, List.length_singleton]
    split <;> simp_all
  nodup := h.nodup.touch k  v
theorem DtIs.del {D : DataW Unit} {l : List DtD} (h : DtIs D l) (hT : Maps.Tidy D) (k : Int) : DtIs (D.del (kz k)) (forgetD l k) where
  has k' := by
    by_cases e : k' = k
    · subst e
      rw [Maps.has_del_same, dforget_same]
      rfl
    · rw [Maps.has_del_other (kz_ne e), dforget_other e, h.has]
  at_ k' m hm z := by
    by_cases e : k' = k
    · subst e
      rw [dforget_same] at hm
      cases hm
    · rw [dforget_other e] at hm
      rw [Maps.atKey_del_other (kz_ne e)]
      exact h.at_ k' m hm z
  size := by
    have h1 := Maps.size_del (k := kz k) hT
    rw [h.has, h.size] at h1
    have := dforget_len (k := k) h.nodup
    omega
  nodup := h.nodup.forget k
/-- Block m is the map. -/
def DtAt (w : World) (m : Nat) (l : List DtD) : Prop := ∃ D, w.ownsMap Tryd.prog 3 dtR m l.length D ∧ DtIs D l
theorem downs_tight {w : World} {b n : Nat} {D : DataW Unit} (h : w.ownsMap Tryd.prog 3 dtR b n D) : w.ownsMap Tryd.prog 3 dtR b (Maps.size D) D := by
  obtain ⟨es, clock, hb, F, hs, rfl⟩ := h
  refine ⟨es, clock, hb, F, ?_, rfl⟩
  rw [Maps.size_eq, length_sorted]
  simp
theorem DtAt.lt {w : World} {m : Nat} {l : List DtD} (h : DtAt w m l) : m < w.heap.size := by obtain ⟨_, h, _⟩ := h; exact h.lt
theorem DtAt.of {w w' : World} {m : Nat} {l : List DtD} (h : DtAt w m l) (hc : w'.heap[m]? = w.heap[m]?) : DtAt w' m l := by
  obtain ⟨D, ⟨es, clock, hb, F, hs, hD⟩, hM⟩ := h
  exact ⟨D, ⟨es, clock, hc.trans hb, F, hs, hD⟩, hM⟩
theorem DtAt.keep {w w' : World} {m : Nat} {l : List DtD} (h : DtAt w m l) (hb : Below w.heap.size w w') : DtAt w' m l := h.of (hb.block m h.lt)
theorem dlook_val {w : World} {m : Nat} {l : List DtD} (h : DtAt w m l) {k : Int} (hk : (Lit.int .i64 k).wf = true) {x : CgE × Int} (hx : findD l k = some x) : (Instr.lookup 80 (.map (some m)) (.int .i64 k) false).run Tryd.prog w = .ok (dtV x.1 x.2) w := by
  obtain ⟨D, hown, hM⟩ := h
  obtain ⟨v, ps, hrun, hv⟩ := hown.lookup keyedZ Tryd.underlying80 (zeroDt w) (dtR_mk _ 0) (keyOfZ hk)
  obtain ⟨y, rfl, hy⟩ := dtR_inv hv
  rw [hM.atz, hx] at hy
  have := dDt_inj (congrArg Prod.fst hy)
  rw [hrun, ← this.1, ← this.2]
theorem dlook_ok {w : World} {m : Nat} {l : List DtD} (h : DtAt w m l) {k : Int} (hk : (Lit.int .i64 k).wf = true) : (Instr.lookup 80 (.map (some m)) (.int .i64 k) true).run Tryd.prog w = .ok (.tuple #[(match findD l k with | none => dtV ⟨⟨#[]⟩, ⟨#[]⟩, 0, 0⟩ 0 | some x => dtV x.1 x.2), .bool (findD l k).isSome]) w := by
  obtain ⟨D, hown, hM⟩ := h
  obtain ⟨v, ps, hrun, hv⟩ := hown.look_ok keyedZ Tryd.underlying80 (zeroDt w) (dtR_mk ⟨⟨#[]⟩, ⟨#[]⟩, 0, 0⟩ 0) (keyOfZ hk)
  obtain ⟨y, rfl, hy⟩ := dtR_inv hv
  rw [hM.atz] at hy
  rw [hM.has k] at hrun
  rw [hrun]
  cases e : findD l k with
  | none =>
    rw [e] at hy
    have := dDt_inj (congrArg Prod.fst hy)
    simp only
    rw [← this.1, ← this.2]
  | some x =>
    rw [e] at hy
    have := dDt_inj (congrArg Prod.fst hy)
    simp only
    rw [← this.1, ← this.2]

/-- One entry more of a block of number q. -/
def freshE (q : Int) (m : List DtD) (x : CgE) : Bool := match findD m x.pos with | none => true | some o => decide (o.2 ≤ q)
def stepE (q : Int) (m : List DtD) (x : CgE) : List DtD := if freshE q m x = true then putD m x.pos (x, q) else m
/-- One block more. -/
def stepB (m : List DtD) (b : Int × List CgE) : List DtD := if chkC b.1 b.2 = 0 then b.2.foldl (stepE b.1) m else m
def newD (l : List (Int × List CgE)) : List DtD := l.foldl stepB []
/-- Merge's answer. -/
def mergeL (l : List (Int × List CgE)) : List CgE := (((newD l).map (·.1)).mergeSort (fun x y => decide (x ≤ y))).map (fun k => match findD (newD l) k with | none => default | some x => x.1)
theorem stepE_len (q : Int) (m : List DtD) (x : CgE) : (stepE q m x).length ≤ m.length + 1 := by
  unfold stepE
  split
  · exact dput_len _ _
  · exact Nat.le_succ _
theorem stepE_nodup {q : Int} {m : List DtD} {x : CgE} (h : NoDupD m) : NoDupD (stepE q m x) := by
  unfold stepE
  split
  · exact h.touch _ _
  · exact h
end Go.Proofs.YtljjcchdhnficaaDoor
