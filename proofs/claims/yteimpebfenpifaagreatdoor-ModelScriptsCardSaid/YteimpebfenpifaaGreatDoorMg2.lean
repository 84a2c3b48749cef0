/-
  Texts put together: Range, Plain, PathMath.
-/
import Derived.RangeFuncOwn
import Derived.RangeFuncSeq
import Derived.WalkKit
import Derived.Lib.EndianBits
import Derived.Lib.Hide
import Derived.Lib.IndexLaws
import Derived.Lib.Join
import Derived.Lib.Strings
namespace Go.Proofs.YteimpebfenpifaaGreatDoor
open Go Go.RowKit

/-- A loop's record. -/
def recL (st : LoopState) (pe : Option Code) (fn : FuncId) (tmps : Array Value) (ps : Array Tmp) (assign body : Code) (D : Nat) : Loop :=
  { state := st, pending := pe, fn := fn, tmps := tmps, params := ps, assign := assign, body := body, defers := D }

/-- What the statement does behind the call, by what is pending. -/
def leaveL (F : Fence) (n : Nat) (P : Program) (Q : Exit → Act → World → Prop) (a : Act) (W : World) : Option Code → Prop
  | none => Q .normal a W
  | some c => c.wpIn F n P Q a W

section
variable {F : Fence} {n : Nat} {P : Program}

theorem range_enter {g : Operand} {ps : Array Tmp} {assign body : Code} {Q : Exit → Act → World → Prop} {a : Act} {w : World}
    (hro : F.round = none) (h1 : 1 ≤ n) {gf : Nat} {lb : Array Value} (hg : a.eval g = .func (.func gf) #[] lb) (hFg : F.fn gf) (eg : ∀ args w, (callFunc gf args).run P w = .ok (.enter gf args) w)
    (h : ∀ fn, F.fn fn → ∀ RC : LoopState → Option Code → Loop, (RC = fun st pe => recL st pe fn a.tmps ps assign body w.heap.size) → CallsIn F (n - 1) P gf (#[.func (.yield (w.heap.size + 1)) #[] #[]] ++ lb) ((w.alloc (.deferred (some []))).alloc (.loop (RC .ready none)))
      fun e W2 => (∃ v, e = .returned v) ∧ ∃ st jump, st ≠ LoopState.busy ∧ W2.heap[w.heap.size + 1]? = some (.loop (RC st jump)) ∧
        leaveL F n P Q { a with defers := { target := .collected w.heap.size, args := #[] } :: a.defers } (W2.putObj (w.heap.size + 1) (.loop (RC .exhausted jump))) jump) :
    (Code.rangeFunc g ps assign body).wpIn F n P Q a w := by
  refine wpIn_rangeFunc fun fn hfn => ?_
  rw [hro]
  have H := h fn hfn _ rfl
  have he := run_enterLoop_outer (P := P) (w := w) fn a.tmps ps assign body
  generalize hW : (w.alloc (.deferred (some []))).alloc (.loop (recL .ready none fn a.tmps ps assign body w.heap.size)) = W1 at H
  rw [show (w.alloc (.deferred (some []))).alloc (.loop { state := .ready, pending := none, fn, tmps := a.tmps, params := ps, assign, body, defers := w.heap.size }) = W1 from hW] at he
  refine ⟨_, _, W1, { target := .fn (.func gf) lb, args := #[.func (.yield (w.heap.size + 1)) #[] #[]] }, W1, gf, #[.func (.yield (w.heap.size + 1)) #[] #[]] ++ lb, W1, he, ?_, ?_, ?_, fun _ => h1, ?_⟩
  · simp only [resolve, hg]
    simp [go_sem]
  · intro f' hf'
    simp [Target.leads] at hf'
    subst hf'
    exact hFg
  · simp [invoke, go_sem, eg]
  · refine H.mono ?_
    rintro e W2 ⟨⟨v, rfl⟩, st, jump, hs, hl, hq⟩
    refine ⟨jump, _, run_endLoop hl hs, ?_⟩
    cases jump <;> exact hq

/-- The record in a round, and behind it. -/
def busyL (r : Loop) : Loop := { r with state := .busy }
def readyL (r : Loop) : Loop := { r with state := .ready, pending := none }
def doneL (r : Loop) (c : Code) : Loop := { r with state := .done, pending := some c }

/-- How a round's body may be left: off its end, or by a return, or out of a block. -/
def roundL (l : Nat) (r : Loop) (R : Ending → World → Prop) : Exit → Act → World → Prop
  | .normal, _, W => W.heap[l]? = some (.loop (busyL r)) ∧ R (.returned (.bool true)) (W.putObj l (.loop (readyL r)))
  | .ret, _, W => W.heap[l]? = some (.loop (busyL r)) ∧ R (.returned (.bool false)) (W.putObj l (.loop (doneL r .ret)))
  | .exit id, _, W => W.heap[l]? = some (.loop (busyL r)) ∧ R (.returned (.bool false)) (W.putObj l (.loop (doneL r (.exit id))))
  | _, _, _ => False

theorem yield_round {l : Nat} {r : Loop} {args : Array Value} {W : World} {R : Ending → World → Prop} (hl : W.heap[l]? = some (.loop r)) (hr : r.state = .ready) (hfn : F.fn r.fn) (hsz : args.size = r.params.size)
    (h : r.assign.wpIn (F.inRound l) n P (Exit.then (fun a1 W1 => W1.heap[l]? = some (.loop r) ∧ r.body.wpIn (F.inRound l) n P (roundL l r R) a1 (W1.putObj l (.loop (busyL r)))) (fun _ _ _ => False))
      { tmps := (r.params.zip args).foldl (fun t (p, v) => t.setIfInBounds p v) r.tmps, defers := [] } W) :
    YieldAt F n P l args W R := by
  refine ⟨r.fn, _, r.assign, r.body, run_yield hl hsz, roundIn_of_wpIn hfn (wpIn_mono h ?_)⟩
  rintro e a1 W1 hq
  cases e with
  | normal =>
    obtain ⟨hl1, hq⟩ := hq
    refine ⟨_, run_beginRound hl1 hr, wpIn_mono hq ?_⟩
    rintro e a2 W2 hp
    cases e with
    | normal => exact ⟨_, _, run_endRound none hp.1, hp.2⟩
    | ret => exact ⟨_, _, run_endRound (some .ret) hp.1, hp.2⟩
    | exit id => exact ⟨_, _, run_endRound (some (.exit id)) hp.1, hp.2⟩
    | goto t => exact hp.elim
    | panic ch => exact hp.elim
    | outgrown => exact hp.elim
  | _ => exact hq.elim
end
end Go.Proofs.YteimpebfenpifaaGreatDoor

namespace Go.Proofs.YteimpebfenpifaaGreatDoor
open Go.RowKit

theorem ret_int {k : IntKind} {a b : Int} (h : a = b) : Ending.returned (.int k a) = .returned (.int k b) := by rw [h]
theorem ret_str {a b : ByteArray} (h : a = b) : Ending.returned (.string a) = .returned (.string b) := by rw [h]
theorem ret_bool {a b : Bool} (h : a = b) : Ending.returned (.bool a) = .returned (.bool b) := by rw [h]

theorem str_some (s : ByteArray) (h : 0 < s.size) : ¬ s.toList = [] ∧ s.toList.isEmpty = false := by
  have e : ¬ s.toList = [] := by
    rw [ByteArray.toList_eq]
    intro e
    have h1 : s.data.toList.length = 0 := by rw [e]; rfl
    rw [Array.length_toList] at h1
    have h2 : s.size = s.data.size := rfl
    omega
  exact ⟨e, by simpa using e⟩

/-- The number that bytes tell, the lowest first. -/
def leVal : List UInt8 → Nat
  | [] => 0
  | x :: r => x.toNat + 256 * leVal r

theorem leVal_lt : ∀ l : List UInt8, leVal l < 256 ^ l.length
  | [] => by simp [leVal]
  | x :: r => by
    have h := leVal_lt r
    have hx := x.toNat_lt
    simp only [leVal, List.length_cons, Nat.pow_succ]
    omega

theorem leVal_snoc : ∀ (l : List UInt8) (x : UInt8), leVal (l ++ [x]) = leVal l + x.toNat * 256 ^ l.length
  | [], x => by simp [leVal]
  | y :: r, x => by
    have h := leVal_snoc r x
    simp only [leVal, List.cons_append, List.length_cons, Nat.pow_succ, h]
    rw [Nat.mul_add, Nat.add_assoc, ← Nat.mul_assoc, ← Nat.mul_assoc, Nat.mul_comm 256 x.toNat, Nat.mul_right_comm]

theorem take_snoc (s : ByteArray) (k : Nat) (h : k < s.size) : s.data.toList.take (k + 1) = s.data.toList.take k ++ [s[k]] := by
  rw [List.take_succ_eq_append_getElem (by simpa using h)]; rfl

theorem leVal_take (s : ByteArray) (k : Nat) (h : k < s.size) : leVal (s.data.toList.take (k + 1)) = leVal (s.data.toList.take k) + s[k].toNat * 256 ^ k := by
  rw [take_snoc s k h, leVal_snoc, List.length_take, Nat.min_eq_left (by simp; omega)]

theorem leVal_take_lt (s : ByteArray) (k : Nat) (h : k ≤ s.size) : leVal (s.data.toList.take k) < 256 ^ k := by
  have := leVal_lt (s.data.toList.take k)
  rwa [List.length_take, Nat.min_eq_left (by simpa using h)] at this

theorem i64_small (n : Int) (h0 : 0 ≤ n) (h : n < 2 ^ 63) : IntKind.i64.wrap n = n := IntWalk.i64_in n ⟨by omega, by omega⟩

theorem pow256 (j : Nat) : (256 : Nat) ^ j = 2 ^ (8 * j) := by rw [show (256 : Nat) = 2 ^ 8 from rfl, ← Nat.pow_mul]

theorem pow256_le (j : Nat) (h : j ≤ 6) : 1 ≤ 256 ^ j ∧ 256 ^ j ≤ 281474976710656 := by
  match j, h with
  | 0, _ => decide
  | 1, _ => decide
  | 2, _ => decide
  | 3, _ => decide
  | 4, _ => decide
  | 5, _ => decide
  | 6, _ => decide

/-- One round of Number. -/
theorem orStep (A x j : Nat) (hA : A < 256 ^ j) (hx : x < 256) (hj : j ≤ 6) : bits .or .i64 (A : Int) (wrap64 ((x : Int) * 2 ^ (8 * j))) = ((A + x * 256 ^ j : Nat) : Int) := by
  have hp := pow256_le j hj
  have hb : x * 256 ^ j < 72057594037927936 := Nat.lt_of_le_of_lt (Nat.mul_le_mul_left x hp.2) (by omega)
  have e : (x : Int) * 2 ^ (8 * j) = ((x * 256 ^ j : Nat) : Int) := by rw [pow256, Int.natCast_mul, Int.natCast_pow]; rfl
  rw [e, IntWalk.wrap64_in _ (by omega)]
  refine (bits_join_low .i64 63 (by decide) i64_small (8 * j) _ _ (by omega) ?_ (by omega) (by omega) ?_ (by omega)).trans (by omega)
  · rw [pow256] at hA; exact_mod_cast hA
  · rw [pow256]; exact_mod_cast Nat.mul_mod_left x (2 ^ (8 * j))
end Go.Proofs.YteimpebfenpifaaGreatDoor

namespace Go.Proofs.YteimpebfenpifaaGreatDoor
open Go.RowKit

def pb (s : ByteArray) : List UInt8 := s.data.toList
theorem pb_size (s : ByteArray) : (pb s).length = s.size := by simp [pb]
theorem pb_append (a b : ByteArray) : pb (a ++ b) = pb a ++ pb b := by simp [pb]
theorem pb_ext {a b : ByteArray} (h : pb a = pb b) : a = b := by
  apply ByteArray.ext
  exact Array.toList_inj.1 h
theorem pb_mk (l : List UInt8) : pb ⟨l.toArray⟩ = l := by simp [pb]
theorem pb_cut (s : ByteArray) (i j : Nat) : pb (s.extract i j) = ((pb s).drop i).take (j - i) := by
  unfold pb
  rw [ByteArray.data_extract, Array.toList_extract, List.extract_eq_take_drop]

/-- The pieces between the bytes '/'. -/
def pieces : List UInt8 → List (List UInt8)
  | [] => [[]]
  | c :: r => if c = 47 then [] :: pieces r else match pieces r with
    | [] => [[c]]
    | p :: ps => (c :: p) :: ps
theorem pieces_ne (l : List UInt8) : pieces l ≠ [] := by
  cases l with
  | nil => simp [pieces]
  | cons c r =>
    unfold pieces
    split
    · simp
    · split <;> simp
theorem pieces_none : ∀ l : List UInt8, (∀ x ∈ l, x ≠ 47) → pieces l = [l]
  | [], _ => rfl
  | c :: r, h => by
    have h1 := pieces_none r (fun x hx => h x (by simp [hx]))
    unfold pieces
    rw [if_neg (h c (by simp)), h1]
theorem pieces_cut : ∀ (a b : List UInt8), (∀ x ∈ a, x ≠ 47) → pieces (a ++ 47 :: b) = a :: pieces b
  | [], b, _ => by simp [pieces]
  | c :: r, b, h => by
    have h1 := pieces_cut r b (fun x hx => h x (by simp [hx]))
    rw [List.cons_append]
    conv => lhs; unfold pieces
    rw [if_neg (h c (by simp)), h1]
theorem pieces_clean : ∀ (l : List UInt8) (p : List UInt8), p ∈ pieces l → ∀ x ∈ p, x ≠ 47
  | [], p, h, x, hx => by
    simp [pieces] at h
    subst h
    cases hx
  | c :: r, p, h, x, hx => by
    unfold pieces at h
    split at h
    · rcases List.mem_cons.1 h with rfl | h
      · cases hx
      · exact pieces_clean r p h x hx
    · rename_i hc
      have ih := pieces_clean r
      generalize pieces r = q at *
      cases q with
      | nil =>
        simp at h
        subst h
        simp at hx
        subst hx
        exact hc
      | cons q qs =>
        rcases List.mem_cons.1 h with rfl | h
        · rcases List.mem_cons.1 hx with rfl | hx
          · exact hc
          · exact ih q (by simp) x hx
        · exact ih p (by simp [h]) x hx
theorem pieces_join : ∀ l : List UInt8, ([47] : List UInt8).intercalate (pieces l) = l
  | [] => rfl
  | c :: r => by
    have ih := pieces_join r
    have hne := pieces_ne r
    unfold pieces
    generalize pieces r = q at *
    cases q with
    | nil => exact absurd rfl hne
    | cons q qs =>
      split
      · rename_i hc
        subst hc
        rw [← ih]
        rfl
      · rw [← ih]
        cases qs <;> rfl
theorem pieces_of_join : ∀ ps : List (List UInt8), ps ≠ [] → (∀ p ∈ ps, ∀ x ∈ p, x ≠ 47) → pieces (([47] : List UInt8).intercalate ps) = ps
  | [], h, _ => absurd rfl h
  | [p], _, h => by
    rw [show ([47] : List UInt8).intercalate [p] = p by simp [List.intercalate, List.intersperse]]
    exact pieces_none p (h p (by simp))
  | p :: q :: r, _, h => by
    have ih := pieces_of_join (q :: r) (by simp) (fun x hx => h x (by simp [hx]))
    rw [show ([47] : List UInt8).intercalate (p :: q :: r) = p ++ 47 :: ([47] : List UInt8).intercalate (q :: r) by simp [List.intercalate, List.intersperse]]
    rw [pieces_cut p _ (h p (by simp)), ih]

theorem pieces_len : ∀ l : List UInt8, (pieces l).length ≤ l.length + 1
  | [] => by simp [pieces]
  | c :: r => by
    have ih := pieces_len r
    unfold pieces
    split
    · simp; exact ih
    · generalize pieces r = q at *
      cases q with
      | nil => simp
      | cons p ps => simp at ih ⊢; omega

theorem join_len : ∀ ps : List (List UInt8), ps.length ≤ (Lib.join ps [47]).length + 1
  | [] => by simp
  | [p] => by simp
  | p :: q :: r => by
    have ih := join_len (q :: r)
    unfold Lib.join at ih ⊢
    rw [show ([47] : List UInt8).intercalate (p :: q :: r) = p ++ 47 :: ([47] : List UInt8).intercalate (q :: r) by simp [List.intercalate, List.intersperse]]
    simp only [List.length_cons, List.length_append] at ih ⊢
    omega

/-- May a text be a name? -/
def okN (s : ByteArray) : Prop := 0 < s.size ∧ s.size ≤ 255 ∧ pb s ≠ [46] ∧ pb s ≠ [46, 46] ∧ ∀ x ∈ pb s, x ≠ 0
instance (s : ByteArray) : Decidable (okN s) := inferInstanceAs (Decidable (_ ∧ _ ∧ _ ∧ _ ∧ _))

def mkB (l : List UInt8) : ByteArray := ⟨l.toArray⟩
/-- The pieces, as texts. -/
def piecesB (s : ByteArray) : List ByteArray := (pieces (pb s)).map mkB
def restP (s : ByteArray) : ByteArray := s.extract 1 s.size
/-- Split's answer. -/
def splitD (s : ByteArray) : List ByteArray × Int :=
  if (pb s).head? ≠ some 47 then ([], 12)
  else if (restP s).size = 0 then ([], 0)
  else if ∀ x ∈ piecesB (restP s), okN x then (piecesB (restP s), 0) else ([], 12)

theorem mkB_pb (s : ByteArray) : mkB (pb s) = s := pb_ext (pb_mk _)
theorem piecesB_ne (s : ByteArray) : piecesB s ≠ [] := by
  unfold piecesB
  intro h
  exact pieces_ne (pb s) (List.map_eq_nil_iff.1 h)
/-- One step of the iterator. -/
theorem piecesB_cut {s : ByteArray} {i : Nat} (h : Lib.indexByte (pb s) 47 = (i : Int)) : i < s.size ∧ piecesB s = s.extract 0 i :: piecesB (s.extract (i + 1) s.size) := by
  obtain ⟨h1, h2⟩ := Lib.indexByte_some h
  have hi : i < (pb s).length := (List.getElem?_eq_some_iff.1 h1).1
  refine ⟨by rw [pb_size] at hi; exact hi, ?_⟩
  have e : pb s = (pb s).take i ++ 47 :: (pb s).drop (i + 1) := by
    have h3 := List.drop_eq_getElem_cons hi
    have h4 : (pb s)[i] = 47 := (List.getElem?_eq_some_iff.1 h1).2
    rw [h4] at h3
    rw [← h3, List.take_append_drop]
  have hc : ∀ x ∈ (pb s).take i, x ≠ 47 := by
    intro x hx e2
    obtain ⟨k, hk, hk2⟩ := List.getElem_of_mem hx
    rw [List.length_take] at hk
    refine h2 k (by omega) ?_
    rw [List.getElem_take] at hk2
    rw [List.getElem?_eq_getElem (by omega), hk2, e2]
  unfold piecesB
  rw [show pieces (pb s) = (pb s).take i :: pieces ((pb s).drop (i + 1)) from by
    have := pieces_cut _ ((pb s).drop (i + 1)) hc
    rwa [← e] at this]
  rw [List.map_cons]
  congr 1
  · apply pb_ext
    rw [mkB, pb_mk, pb_cut, List.drop_zero, Nat.sub_zero]
  · rw [pb_cut, List.take_of_length_le (by rw [List.length_drop, pb_size]; omega)]
theorem piecesB_last {s : ByteArray} (h : Lib.indexByte (pb s) 47 = -1) : piecesB s = [s] := by
  have h1 := Lib.indexByte_none h
  unfold piecesB
  rw [pieces_none (pb s) (fun x hx e => by
    obtain ⟨k, hk, hk2⟩ := List.getElem_of_mem hx
    exact h1 k (by rw [List.getElem?_eq_getElem hk, hk2, e]))]
  show [mkB (pb s)] = _
  rw [mkB_pb]
end Go.Proofs.YteimpebfenpifaaGreatDoor
