/-
  Texts put together: ClogA, SeM.
-/
import Derived.Test.YtopinlnjdgedeaaDoorMg1
import Derived.Maps.OwnSet
namespace Go.Proofs.YtopinlnjdgedeaaDoor
open Go.RowKit

/-- An entry: key, digest, length, place. -/
structure CgE where
  key : ByteArray
  sum : ByteArray
  len : Int
  pos : Int
deriving Inhabited, DecidableEq
def cgL (x : CgE) : List Value := [.string x.key, .string x.sum, .int .i64 x.len, .int .i64 x.pos]
abbrev cgV (x : CgE) : Value := .agg #[.string x.key, .string x.sum, .int .i64 x.len, .int .i64 x.pos]
/-- A slice of entries, as it was handed over. -/
def SlC (w : World) (a : Option Addr) (l : List CgE) : Prop := l ≠ [] → ∃ b off, a = some ⟨b, off, none⟩ ∧ b < w.heap.size ∧ ∀ i x, l[i]? = some x → ∀ j u, (cgL x)[j]? = some u → w.cell? ⟨b, off + i * 4 + j, none⟩ = some u
theorem SlC.keep {w w' : World} {a : Option Addr} {l : List CgE} (h : SlC w a l) (hb : Below w.heap.size w w') : SlC w' a l := fun hne => by
  obtain ⟨b, off, e, hlt, hc⟩ := h hne
  exact ⟨b, off, e, Nat.lt_of_lt_of_le hlt hb.size, fun i x hx j u hj => (hb.cell (p := ⟨b, off + i * 4 + j, none⟩) hlt).trans (hc i x hx j u hj)⟩
theorem SlC.get {w : World} {a : Option Addr} {l : List CgE} (h : SlC w a l) (k : Nat) (hk : k < l.length) :
    ∃ b off, a = some ⟨b, off, none⟩ ∧ b < w.heap.size ∧ w.cell? ⟨b, off + k * 4, none⟩ = some (.string (l[k]).key) ∧ w.cell? ⟨b, off + k * 4 + 1, none⟩ = some (.string (l[k]).sum) ∧ w.cell? ⟨b, off + k * 4 + 2, none⟩ = some (.int .i64 (l[k]).len) ∧ w.cell? ⟨b, off + k * 4 + 3, none⟩ = some (.int .i64 (l[k]).pos) := by
  obtain ⟨b, off, e, hlt, hc⟩ := h (by intro e; rw [e] at hk; simp at hk)
  have := hc k _ (List.getElem?_eq_getElem hk)
  exact ⟨b, off, e, hlt, this 0 _ rfl, this 1 _ rfl, this 2 _ rfl, this 3 _ rfl⟩

/-- May it be an entry? -/
def MayC (x : CgE) : Prop := 1 ≤ x.key.size ∧ x.key.size ≤ 60 ∧ x.sum.size = 32 ∧ 0 ≤ x.len ∧ x.len ≤ 960 ∧ 0 ≤ x.pos ∧ x.pos < 512
instance (x : CgE) : Decidable (MayC x) := by unfold MayC; infer_instance
/-- Check's answer. -/
def chkC (seq : Int) (l : List CgE) : Int := if 0 ≤ seq ∧ seq ≤ 1099511627776 ∧ l.length ≤ 7 ∧ ∀ x ∈ l, MayC x then 0 else 1
theorem chkC_bad {seq : Int} {l : List CgE} (h : ¬ (0 ≤ seq ∧ seq ≤ 1099511627776 ∧ l.length ≤ 7)) : chkC seq l = 1 := if_neg fun e => h ⟨e.1, e.2.1, e.2.2.1⟩
theorem chkC_no {seq : Int} {l : List CgE} {k : Nat} (hk : k < l.length) (h : ¬ MayC l[k]) : chkC seq l = 1 := if_neg fun e => h (e.2.2.2 _ (List.getElem_mem hk))
theorem chkC_ok {seq : Int} {l : List CgE} (h : 0 ≤ seq ∧ seq ≤ 1099511627776 ∧ l.length ≤ 7) (ha : ∀ k (hk : k < l.length), MayC l[k]) : chkC seq l = 0 := if_pos ⟨h.1, h.2.1, h.2.2, fun x hx => by
  obtain ⟨k, hk, rfl⟩ := List.getElem_of_mem hx
  exact ha k hk⟩
theorem str_zero {s : ByteArray} (h : s.size = 0) : s = ⟨#[]⟩ := by
  apply ByteArray.ext
  apply Array.eq_empty_of_size_eq_zero
  exact h
theorem str_nz {s : ByteArray} (h : 1 ≤ s.size) : (s.toList == []) = false := by
  rw [beq_eq_false_iff_ne]
  intro e
  rw [ByteArray.toList_eq] at e
  have : s.data.toList.length = 0 := by rw [e]; rfl
  have h2 : s.data.toList.length = s.size := by rw [Array.length_toList]; rfl
  omega

set_option maxRecDepth 100000 in
set_option maxHeartbeats 1000000 in
theorem cmay_any (x : CgE) (w : World) : Calls Tryd.prog 66 #[cgV x] w fun e w' => e = .returned (.bool (decide (MayC x))) ∧ Below w.heap.size w w' := by
  obtain ⟨k, s, n, p⟩ := x
  by_cases h0 : 1 ≤ k.size
  · skip
    by_cases h1 : k.size ≤ 60
    · skip
      by_cases h2 : s.size = 32
      · skip
        by_cases h3 : 0 ≤ n
        · skip
          by_cases h4 : n ≤ 960
          · skip
            by_cases h5 : 0 ≤ p
            · skip
              by_cases h6 : p < 512
              · skip
                rw [show decide (MayC ⟨k, s, n, p⟩) = true from decide_eq_true ⟨h0, h1, h2, h3, h4, h5, h6⟩]
                have d0 : (k.toList == []) = false := str_nz h0
                have d1 : decide ((k.size : Int) ≤ 60) = true := decide_eq_true (by omega)
                have d2 : ((s.size : Int) == 32) = true := by rw [h2]; rfl
                clear h0 h1 h2
                go_enter Tryd.func66, Tryd.ntmps66
                go_wp2
                go_ret
                exact ⟨rfl, (Below.refl _ _).alloc (Nat.le_refl _) _⟩
              · rw [show decide (MayC ⟨k, s, n, p⟩) = false from decide_eq_false (fun h => h6 h.2.2.2.2.2.2)]
                have d0 : (k.toList == []) = false := str_nz h0
                have d1 : decide ((k.size : Int) ≤ 60) = true := decide_eq_true (by omega)
                have d2 : ((s.size : Int) == 32) = true := by rw [h2]; rfl
                have d6 : decide (p < 512) = false := decide_eq_false (by omega)
                clear h0 h1 h2 h6
                go_enter Tryd.func66, Tryd.ntmps66
                go_wp2
                go_ret
                exact ⟨rfl, (Below.refl _ _).alloc (Nat.le_refl _) _⟩
            · rw [show decide (MayC ⟨k, s, n, p⟩) = false from decide_eq_false (fun h => h5 h.2.2.2.2.2.1)]
              have d0 : (k.toList == []) = false := str_nz h0
              have d1 : decide ((k.size : Int) ≤ 60) = true := decide_eq_true (by omega)
              have d2 : ((s.size : Int) == 32) = true := by rw [h2]; rfl
              have d5 : decide (0 ≤ p) = false := decide_eq_false (by omega)
              clear h0 h1 h2 h5
              go_enter Tryd.func66, Tryd.ntmps66
              go_wp2
              go_ret
              exact ⟨rfl, (Below.refl _ _).alloc (Nat.le_refl _) _⟩
          · rw [show decide (MayC ⟨k, s, n, p⟩) = false from decide_eq_false (fun h => h4 h.2.2.2.2.1)]
            have d0 : (k.toList == []) = false := str_nz h0
            have d1 : decide ((k.size : Int) ≤ 60) = true := decide_eq_true (by omega)
            have d2 : ((s.size : Int) == 32) = true := by rw [h2]; rfl
            have d4 : decide (n ≤ 960) = false := decide_eq_false (by omega)
            clear h0 h1 h2 h4
            go_enter Tryd.func66, Tryd.ntmps66
            go_wp2
            go_ret
            exact ⟨rfl, (Below.refl _ _).alloc (Nat.le_refl _) _⟩
        · rw [show decide (MayC ⟨k, s, n, p⟩) = false from decide_eq_false (fun h => h3 h.2.2.2.1)]
          have d0 : (k.toList == []) = false := str_nz h0
          have d1 : decide ((k.size : Int) ≤ 60) = true := decide_eq_true (by omega)
          have d2 : ((s.size : Int) == 32) = true := by rw [h2]; rfl
          have d3 : decide (0 ≤ n) = false := decide_eq_false (by omega)
          clear h0 h1 h2 h3
          go_enter Tryd.func66, Tryd.ntmps66
          go_wp2
          go_ret
          exact ⟨rfl, (Below.refl _ _).alloc (Nat.le_refl _) _⟩
      · rw [show decide (MayC ⟨k, s, n, p⟩) = false from decide_eq_false (fun h => h2 h.2.2.1)]
        have d0 : (k.toList == []) = false := str_nz h0
        have d1 : decide ((k.size : Int) ≤ 60) = true := decide_eq_true (by omega)
        have d2 : ((s.size : Int) == 32) = false := by rw [beq_eq_false_iff_ne]; omega
        clear h0 h1 h2
        go_enter Tryd.func66, Tryd.ntmps66
        go_wp2
        go_ret
        exact ⟨rfl, (Below.refl _ _).alloc (Nat.le_refl _) _⟩
    · rw [show decide (MayC ⟨k, s, n, p⟩) = false from decide_eq_false (fun h => h1 h.2.1)]
      have d0 : (k.toList == []) = false := str_nz h0
      have d1 : decide ((k.size : Int) ≤ 60) = false := decide_eq_false (by omega)
      clear h0 h1
      go_enter Tryd.func66, Tryd.ntmps66
      go_wp2
      go_ret
      exact ⟨rfl, (Below.refl _ _).alloc (Nat.le_refl _) _⟩
  · rw [show decide (MayC ⟨k, s, n, p⟩) = false from decide_eq_false (fun h => h0 h.1)]
    have d0 : k = ⟨#[]⟩ := str_zero (by omega)
    subst d0
    clear h0
    go_enter Tryd.func66, Tryd.ntmps66
    go_wp2
    go_ret
    exact ⟨rfl, (Below.refl _ _).alloc (Nat.le_refl _) _⟩
end Go.Proofs.YtopinlnjdgedeaaDoor

namespace Go.Proofs.YtopinlnjdgedeaaDoor
open Go.RowKit Go.ChangeShapes Go.WideShapes Go.ChangeAt

/-- A sector, its entry. -/
abbrev EnD := Int × CgE
def dEn (x : CgE) : DataW Unit := .agg [.lit (.string x.key.data.toList), .lit (.string x.sum.data.toList), .lit (.int .i64 x.len), .lit (.int .i64 x.pos)]
def enR : Value → Option (DataW Unit × List MemPlace)
  | .agg ⟨[.string k, .string s, .int .i64 n, .int .i64 p]⟩ => some (dEn ⟨k, s, n, p⟩, [])
  | _ => none
theorem enR_mk (x : CgE) : enR (cgV x) = some (dEn x, []) := rfl
theorem enR_inv {v : Value} {y : DataW Unit × List MemPlace} (h : enR v = some y) : ∃ m : CgE, v = cgV m ∧ y = (dEn m, []) := by
  unfold enR at h
  split at h
  · cases h; exact ⟨⟨_, _, _, _⟩, rfl, rfl⟩
  · cases h
theorem bytes_listS {a b : ByteArray} (h : a.data.toList = b.data.toList) : a = b := ByteArray.ext (Array.toList_inj.1 h)
theorem dEn_inj {x y : CgE} (h : dEn x = dEn y) : x = y := by
  obtain ⟨x1, x2, x3, x4⟩ := x
  obtain ⟨y1, y2, y3, y4⟩ := y
  unfold dEn at h
  simp only [DataW.agg.injEq, List.cons.injEq, DataW.lit.injEq, Lit.string.injEq, Lit.int.injEq, true_and, and_true] at h
  obtain ⟨h1, h2, rfl, rfl⟩ := h
  rw [bytes_listS h1, bytes_listS h2]
def ky (k : Int) : Lit := .int .i64 k
theorem ky_ne {k k' : Int} (h : k ≠ k') : ky k ≠ ky k' := fun e => h (by unfold ky at e; injection e)
theorem keyedY : Maps.Keyed Tryd.prog 3 := Maps.int_keyed Tryd.underlying3
theorem keyOfY {k : Int} (hk : (Lit.int .i64 k).wf = true) : keyOf Tryd.prog 3 (.int .i64 k) = some (ky k) := Maps.keyOf_int_mk Tryd.underlying3 hk
theorem isKy {k : Int} (hk : (Lit.int .i64 k).wf = true) : WideAt.IsKeyLit (ky k) := keyedY.key (keyOfY hk)
theorem zeroEn (w : World) : (zeroValue 64).run Tryd.prog w = .ok (cgV ⟨⟨#[]⟩, ⟨#[]⟩, 0, 0⟩) w := by kernel_rfl

def findS (l : List EnD) (k : Int) : Option (CgE) := (l.find? (fun x => decide (x.1 = k))).map (·.2)
def forgetS (l : List EnD) (k : Int) : List EnD := l.filter (fun x => !decide (x.1 = k))
def putS (l : List EnD) (k : Int) (v : CgE) : List EnD := forgetS l k ++ [(k, v)]
theorem sfind_nil (k : Int) : findS [] k = none := rfl
theorem sfind_cons (x : EnD) (l : List EnD) (k : Int) : findS (x :: l) k = if x.1 = k then some x.2 else findS l k := by
  unfold findS
  rw [List.find?_cons]
  by_cases h : x.1 = k
  · simp [h]
  · simp [h]
theorem sfind_app (k : Int) : ∀ (l r : List EnD), findS (l ++ r) k = (findS l k).or (findS r k)
  | [], r => by simp [sfind_nil]
  | x :: l, r => by
    rw [List.cons_append, sfind_cons, sfind_cons, sfind_app k l r]
    split <;> simp
theorem sforget_same (k : Int) : ∀ l : List EnD, findS (forgetS l k) k = none
  | [] => rfl
  | x :: l => by
    unfold forgetS
    rw [List.filter_cons]
    by_cases h : x.1 = k
    · simp only [h, decide_true, Bool.not_true, Bool.false_eq_true, if_false]
      exact sforget_same k l
    · simp only [h, decide_false, Bool.not_false, if_true]
      rw [sfind_cons, if_neg h]
      exact sforget_same k l
theorem sforget_other {k k' : Int} (hne : k' ≠ k) : ∀ l : List EnD, findS (forgetS l k) k' = findS l k'
  | [] => rfl
  | x :: l => by
    unfold forgetS
    rw [List.filter_cons]
    by_cases h : x.1 = k
    · simp only [h, decide_true, Bool.not_true, Bool.false_eq_true, if_false]
      rw [sfind_cons, if_neg (by rw [h]; exact Ne.symm hne)]
      exact sforget_other hne l
    · simp only [h, decide_false, Bool.not_false, if_true]
      rw [sfind_cons, sfind_cons]
      rw [show findS (l.filter fun x => !decide (x.1 = k)) k' = findS l k' from sforget_other hne l]
theorem sput_same (l : List EnD) (k : Int) (v : CgE) : findS (putS l k  v) k = some (v) := by
  unfold putS
  rw [sfind_app, sforget_same, sfind_cons]
  simp
theorem sput_other (l : List EnD) {k k' : Int} (hne : k' ≠ k) (v : CgE) : findS (putS l k  v) k' = findS l k' := by
  unfold putS
  rw [sfind_app, sforget_other hne, sfind_cons, if_neg (Ne.symm hne)]
  simp [sfind_nil]
def NoDupS (l : List EnD) : Prop := l.Pairwise (fun x y => x.1 ≠ y.1)
theorem NoDupS.forget {l : List EnD} (h : NoDupS l) (k : Int) : NoDupS (forgetS l k) := List.Pairwise.filter _ h
theorem NoDupS.touch {l : List EnD} (h : NoDupS l) (k : Int) (v : CgE) : NoDupS (putS l k  v) := by
  unfold putS NoDupS
  rw [List.pairwise_append]
  refine ⟨h.forget k, by simp, ?_⟩
  intro x hx y hy
  simp only [List.mem_singleton] at hy
  subst hy
  unfold forgetS at hx
  simp only [List.mem_filter, Bool.not_eq_true', decide_eq_false_iff_not] at hx
  exact hx.2
theorem sfind_none {k : Int} : ∀ {l : List EnD}, findS l k = none ↔ ∀ x ∈ l, x.1 ≠ k
  | [] => by simp [sfind_nil]
  | x :: l => by
    rw [sfind_cons]
    by_cases h : x.1 = k
    · simp [h]
    · rw [if_neg h, sfind_none]
      simp [h]
theorem sfind_mem {k : Int} {m : CgE} : ∀ {l : List EnD}, findS l k = some m → (k, m) ∈ l
  | [], h => by cases h
  | x :: l, h => by
    rw [sfind_cons] at h
    by_cases e : x.1 = k
    · rw [if_pos e] at h
      cases h
      rw [← e]
      exact List.mem_cons_self
    · rw [if_neg e] at h
      exact List.mem_cons_of_mem _ (sfind_mem h)
theorem sfind_of_mem {x : EnD} : ∀ {l : List EnD}, NoDupS l → x ∈ l → findS l x.1 = some x.2
  | [], _, h => by cases h
  | y :: l, hd, h => by
    rw [sfind_cons]
    rcases List.mem_cons.1 h with rfl | h2
    · rw [if_pos rfl]
    · rw [if_neg ((List.pairwise_cons.1 hd).1 _ h2)]
      exact sfind_of_mem (List.pairwise_cons.1 hd).2 h2
theorem sforget_len {k : Int} : ∀ {l : List EnD}, NoDupS l → (forgetS l k).length + (if (findS l k).isSome = true then 1 else 0) = l.length
  | [], _ => rfl
  | x :: l, hd => by
    have ih := sforget_len (k := k) (List.pairwise_cons.1 hd).2
    rw [sfind_cons]
    by_cases h : x.1 = k
    · rw [if_pos h]
      have hn : findS l k = none := sfind_none.2 (fun y hy => by rw [← h]; exact Ne.symm ((List.pairwise_cons.1 hd).1 y hy))
      rw [hn] at ih
      simp only [Option.isSome_none, Bool.false_eq_true, if_false, Nat.add_zero] at ih
      unfold forgetS at *
      rw [List.filter_cons]
      simp only [h, decide_true, Bool.not_true, Bool.false_eq_true, if_false, Option.isSome_some, if_true, List.length_cons]
      omega
    · rw [if_neg h]
      unfold forgetS at *
      rw [List.filter_cons]
      simp only [h, decide_false, Bool.not_false, if_true, List.length_cons]
      omega
theorem sforget_le (l : List EnD) (k : Int) : (forgetS l k).length ≤ l.length := List.length_filter_le _ _
theorem sput_len {l : List EnD} (k : Int) (v : CgE) : (putS l k  v).length ≤ l.length + 1 := by
  unfold putS
  have := sforget_le l k
  simp
  exact this

/-- What a map reads as, and the counts. -/
structure EnIs (D : DataW Unit) (l : List EnD) : Prop where
  has : ∀ k, Maps.has D (ky k) = (findS l k).isSome
  at_ : ∀ k m, findS l k = some m → ∀ z, D.atKey (ky k) z = dEn m
  size : Maps.size D = l.length
  nodup : NoDupS l
theorem EnIs.nil : EnIs (.map []) [] := ⟨fun _ => rfl, fun _ _ h => (by cases h), rfl, List.Pairwise.nil⟩
theorem EnIs.atz {D : DataW Unit} {l : List EnD} (h : EnIs D l) (k : Int) (z : DataW Unit) : D.atKey (ky k) z = match findS l k with | none => z | some m => dEn m := by
  cases e : findS l k with
  | none => exact Maps.atKey_of_not_has (by rw [h.has, e]; rfl) z
  | some m => exact h.at_ k m e z
theorem EnIs.put {D : DataW Unit} {l : List EnD} (h : EnIs D l) (hT : Maps.Tidy D) {k : Int} (hk : (Lit.int .i64 k).wf = true) (v : CgE) : EnIs (D.put (ky k) (dEn v)) (putS l k  v) where
  has k' := by
    by_cases e : k' = k
    · subst e
      rw [Maps.has_put_same hT.isMap (isKy hk), sput_same]
      rfl
    · rw [Maps.has_put_other (ky_ne e), sput_other l e, h.has]
  at_ k' m hm z := by
    by_cases e : k' = k
    · subst e
      rw [sput_same] at hm
      cases hm
      exact Maps.atKey_put_same hT.isMap (isKy hk) _ _
    · rw [sput_other l e] at hm
      rw [Maps.atKey_put_other (ky_ne e)]
      exact h.at_ k' m hm z
  size := by
    rw [Maps.size_put hT, h.has, h.size]
    have := sforget_len (k := k) h.nodup
    unfold putS
    rw [List.length_append, List.length_singleton]
    split <;> simp_all
  nodup := h.nodup.touch k  v
theorem EnIs.del {D : DataW Unit} {l : List EnD} (h : EnIs D l) (hT : Maps.Tidy D) (k : Int) : EnIs (D.del (ky k)) (forgetS l k) where
  has k' := by
    by_cases e : k' = k
    · subst e
      rw [Maps.has_del_same, sforget_same]
      rfl
    · rw [Maps.has_del_other (ky_ne e), sforget_other e, h.has]
  at_ k' m hm z := by
    by_cases e : k' = k
    · subst e
      rw [sforget_same] at hm
      cases hm
    · rw [sforget_other e] at hm
      rw [Maps.atKey_del_other (ky_ne e)]
      exact h.at_ k' m hm z
  size := by
    have h1 := Maps.size_del (k := ky k) hT
    rw [h.has, h.size] at h1
    have := sforget_len (k := k) h.nodup
    omega
  nodup := h.nodup.forget k
/-- Block m is the map. -/
def EnAt (w : World) (m : Nat) (l : List EnD) : Prop := ∃ D, w.ownsMap Tryd.prog 3 enR m l.length D ∧ EnIs D l
theorem sowns_tight {w : World} {b n : Nat} {D : DataW Unit} (h : w.ownsMap Tryd.prog 3 enR b n D) : w.ownsMap Tryd.prog 3 enR b (Maps.size D) D := by
  obtain ⟨es, clock, hb, F, hs, rfl⟩ := h
  refine ⟨es, clock, hb, F, ?_, rfl⟩
  rw [Maps.size_eq, length_sorted]
  simp
theorem EnAt.lt {w : World} {m : Nat} {l : List EnD} (h : EnAt w m l) : m < w.heap.size := by obtain ⟨_, h, _⟩ := h; exact h.lt
theorem EnAt.of {w w' : World} {m : Nat} {l : List EnD} (h : EnAt w m l) (hc : w'.heap[m]? = w.heap[m]?) : EnAt w' m l := by
  obtain ⟨D, ⟨es, clock, hb, F, hs, hD⟩, hM⟩ := h
  exact ⟨D, ⟨es, clock, hc.trans hb, F, hs, hD⟩, hM⟩
theorem EnAt.keep {w w' : World} {m : Nat} {l : List EnD} (h : EnAt w m l) (hb : Below w.heap.size w w') : EnAt w' m l := h.of (hb.block m h.lt)
theorem slook_val {w : World} {m : Nat} {l : List EnD} (h : EnAt w m l) {k : Int} (hk : (Lit.int .i64 k).wf = true) {x : CgE} (hx : findS l k = some x) : (Instr.lookup 60 (.map (some m)) (.int .i64 k) false).run Tryd.prog w = .ok (cgV x) w := by
  obtain ⟨D, hown, hM⟩ := h
  obtain ⟨v, ps, hrun, hv⟩ := hown.lookup keyedY Tryd.underlying60 (zeroEn w) (enR_mk _) (keyOfY hk)
  obtain ⟨y, rfl, hy⟩ := enR_inv hv
  rw [hM.atz, hx] at hy
  have := dEn_inj (congrArg Prod.fst hy)
  rw [hrun, ← this]
theorem slook_ok {w : World} {m : Nat} {l : List EnD} (h : EnAt w m l) {k : Int} (hk : (Lit.int .i64 k).wf = true) : (Instr.lookup 60 (.map (some m)) (.int .i64 k) true).run Tryd.prog w = .ok (.tuple #[(match findS l k with | none => cgV ⟨⟨#[]⟩, ⟨#[]⟩, 0, 0⟩ | some x => cgV x), .bool (findS l k).isSome]) w := by
  obtain ⟨D, hown, hM⟩ := h
  obtain ⟨v, ps, hrun, hv⟩ := hown.look_ok keyedY Tryd.underlying60 (zeroEn w) (enR_mk ⟨⟨#[]⟩, ⟨#[]⟩, 0, 0⟩) (keyOfY hk)
  obtain ⟨y, rfl, hy⟩ := enR_inv hv
  rw [hM.atz] at hy
  rw [hM.has k] at hrun
  rw [hrun]
  cases e : findS l k with
  | none =>
    rw [e] at hy
    have := dEn_inj (congrArg Prod.fst hy)
    simp only
    rw [← this]
  | some x =>
    rw [e] at hy
    have := dEn_inj (congrArg Prod.fst hy)
    simp only
    rw [← this]

end Go.Proofs.YtopinlnjdgedeaaDoor
