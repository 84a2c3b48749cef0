/-
  Texts put together: TreeA, TreeB, TreeC, TreeD, TreeE.
-/
import Derived.Test.YtbeldjijnjgbfaaNodeE
namespace Go.Proofs.Ytbeldjijnjgbfaa
open Go.RowKit

abbrev noT : ByteArray := ⟨#[]⟩
abbrev leastT : ByteArray := ⟨#[0]⟩

/-! ### the store in memory -/
structure StD where
  l : List ByteArray
  room : Int
def digF : Nat → Nat → ByteArray → ByteArray
  | 0, _, s => s
  | k + 1, n, s => digF k (n / 10) (⟨#[UInt8.ofNat (48 + n % 10)]⟩ ++ s)
/-- A number's six digits. -/
def dig6 (n : Nat) : ByteArray := digF 6 n noT
def numF : List UInt8 → Nat → Option Nat
  | [], n => some n
  | c :: r, n => if c < 48 ∨ 57 < c then none else numF r (10 * n + (c.toNat - 48))
/-- The number of six digits. -/
def numT (s : ByteArray) : Option Nat := match numF s.data.toList 0 with
  | none => none
  | some n => if s.size = 6 then some n else none
def getS (S : StD) (r : ByteArray) : ByteArray × Int := match numT r with
  | none => (noT, 7)
  | some n => match S.l[n]? with
    | none => (noT, 7)
    | some t => (t, 0)
def putS (S : StD) (t : ByteArray) : (ByteArray × Int) × StD := if S.room ≤ S.l.length then ((noT, 6), S) else ((dig6 S.l.length, 0), { S with l := S.l ++ [t] })

/-! ### nodes of the store -/
def putN (S : StD) (n : NodeD) : (ByteArray × Int) × StD :=
  if chkN n ≠ 0 then ((noT, chkN n), S) else if (putS S (encD n)).1.2 ≠ 0 then ((noT, (putS S (encD n)).1.2), (putS S (encD n)).2)
  else if (putS S (encD n)).1.1.size = 0 ∨ 120 < (putS S (encD n)).1.1.size then ((noT, 1), (putS S (encD n)).2) else putS S (encD n)
def loadN (S : StD) (ref : ByteArray) (h : Nat) : NodeD × Int :=
  if 20 < h then (nilD, 3) else if (getS S ref).2 ≠ 0 then (nilD, (getS S ref).2)
  else if (decP (getS S ref).1).2 ≠ 0 ∨ ((decP (getS S ref).1).1.leaf = false ∧ (decP (getS S ref).1).1.keys = []) then (nilD, 3)
  else if (decP (getS S ref).1).1.leaf = true then ((decP (getS S ref).1).1, 0)
  else (⟨false, (decP (getS S ref).1).1.keys.set 0 leastT, (decP (getS S ref).1).1.vals⟩, 0)

/-! ### down, up -/
abbrev StepD := NodeD × Nat
def downN (S : StD) (key : ByteArray) : Nat → List StepD → ByteArray → List StepD × NodeD × Int
  | 0, above, _ => (above, nilD, 3)
  | f + 1, above, ref =>
    if (loadN S ref (above.length + 1)).2 ≠ 0 ∨ (loadN S ref (above.length + 1)).1.leaf = true then (above, (loadN S ref (above.length + 1)).1, (loadN S ref (above.length + 1)).2)
    else downN S key f (above ++ [((loadN S ref (above.length + 1)).1, (findD (loadN S ref (above.length + 1)).1 key).1)]) ((loadN S ref (above.length + 1)).1.vals.getD (findD (loadN S ref (above.length + 1)).1 key).1 noT)
def downT (S : StD) (root key : ByteArray) : List StepD × NodeD × Int := if root.size = 0 then ([], ⟨true, [], []⟩, 0) else downN S key 21 [] root
def partsN (n : NodeD) : List NodeD :=
  if n.keys = [] then [] else if chkN n = 0 then [n]
  else if n.leaf = false ∧ (splitD n).2.1.keys.length = 1 ∧ 2 < (splitD n).1.keys.length then
    [withoutD (splitD n).1 ((splitD n).1.keys.getLastD noT), withD (splitD n).2.1 ((splitD n).1.keys.getLastD noT) ((splitD n).1.vals.getLastD noT)]
  else [(splitD n).1, (splitD n).2.1]
def keepL : StD → List NodeD → List Ent → (List Ent × Int) × StD
  | S, [], l => ((l, 0), S)
  | S, p :: r, l => if (putN S p).1.2 ≠ 0 then (([], (putN S p).1.2), (putN S p).2) else keepL (putN S p).2 r (l ++ [(p.keys.headD noT, (putN S p).1.1)])
def keepN (S : StD) (n : NodeD) : (List Ent × Int) × StD := keepL S (partsN n) []
def swapN (n : NodeD) (i : Nat) (l : List Ent) : NodeD := match l with
  | [] => withoutD n (n.keys.getD i noT)
  | p :: r => r.foldl (fun m x => withD m x.1 x.2) (withD (withoutD n (n.keys.getD i noT)) (n.keys.getD i noT) p.2)
def topN (S : StD) (l : List Ent) (h : Nat) : (ByteArray × Int) × StD := match l with
  | [] => ((noT, 0), S)
  | [p] => ((p.2, 0), S)
  | p :: x :: _ => if h = 20 then ((noT, 3), S) else putN S ⟨false, [leastT, x.1], [p.2, x.2]⟩
/-- The steps, the last one first. -/
def upR : List StepD → StD → NodeD → Nat → (ByteArray × Int) × StD
  | [], S, n, h => if n.leaf = false ∧ n.keys.length = 1 then ((n.vals.headD noT, 0), S) else if (keepN S n).1.2 ≠ 0 then ((noT, (keepN S n).1.2), (keepN S n).2) else topN (keepN S n).2 (keepN S n).1.1 h
  | s :: r, S, n, h => if (keepN S n).1.2 ≠ 0 then ((noT, (keepN S n).1.2), (keepN S n).2) else upR r (keepN S n).2 (swapN s.1 s.2 (keepN S n).1.1) h
def upN (S : StD) (above : List StepD) (n : NodeD) : (ByteArray × Int) × StD := upR above.reverse S n (above.length + 1)

/-! ### what is asked -/
def getT (S : StD) (root key : ByteArray) : ByteArray × Int :=
  if (downT S root key).2.2 ≠ 0 then (noT, (downT S root key).2.2) else if (findD (downT S root key).2.1 key).2 = true then ((downT S root key).2.1.vals.getD (findD (downT S root key).2.1 key).1 noT, 0) else (noT, 8)
def putT (S : StD) (root key val : ByteArray) : (ByteArray × Int) × StD :=
  if chkN ⟨true, [key], [val]⟩ ≠ 0 then ((noT, 1), S) else if (downT S root key).2.2 ≠ 0 then ((noT, (downT S root key).2.2), S) else upN S (downT S root key).1 (withD (downT S root key).2.1 key val)
def delT (S : StD) (root key : ByteArray) : (ByteArray × Int) × StD :=
  if (downT S root key).2.2 ≠ 0 then ((noT, (downT S root key).2.2), S) else if (findD (downT S root key).2.1 key).2 = false then ((noT, 8), S) else upN S (downT S root key).1 (withoutD (downT S root key).2.1 key)
def seenT (l : List ByteArray) (r : ByteArray) : Bool := l.any (fun x => decide (x = r))
/-- The nodes, each ahead of those that it leads to; what is asked next stands first. -/
def nodesF (S : StD) (fr : ByteArray) : Nat → List (ByteArray × Nat) → List ByteArray → List (ByteArray × NodeD × Int)
  | 0, _, _ => []
  | _ + 1, [], _ => []
  | f + 1, p :: todo, seen =>
    if seenT seen p.1 = true then [(p.1, nilD, 3)] else if (loadN S p.1 p.2).2 ≠ 0 then [(p.1, loadN S p.1 p.2)]
    else (p.1, loadN S p.1 p.2) :: nodesF S fr f ((if (loadN S p.1 p.2).1.leaf = true then [] else ((loadN S p.1 p.2).1.vals.drop (findD (loadN S p.1 p.2).1 fr).1).map (fun r => (r, p.2 + 1))) ++ todo) (p.1 :: seen)
/-- No ref of the store is told twice, so this many rounds are enough. -/
def nodesT (S : StD) (root fr : ByteArray) : List (ByteArray × NodeD × Int) := if root.size = 0 then [] else nodesF S fr (S.l.length + 2) [(root, 1)] []
def pairsN (n : NodeD) (fr : ByteArray) : List Ent := if n.leaf = true then (n.keys.zip n.vals).filter (fun x => !ltK x.1 fr) else []
def scanL (fr : ByteArray) (many : Nat) : List (ByteArray × NodeD × Int) → List Ent → List Ent × Int
  | [], acc => (acc, 0)
  | x :: r, acc => if x.2.2 ≠ 0 then ([], x.2.2) else if many ≤ (acc ++ pairsN x.2.1 fr).length then ((acc ++ pairsN x.2.1 fr).take many, 0) else scanL fr many r (acc ++ pairsN x.2.1 fr)
def scanT (S : StD) (root fr : ByteArray) (many : Int) : List Ent × Int := if many < 1 then ([], 0) else scanL fr many.toNat (nodesT S root fr) []
def refsL : List (ByteArray × NodeD × Int) → List ByteArray → List ByteArray × Int
  | [], acc => (acc, 0)
  | x :: r, acc => if x.2.2 ≠ 0 then ([], x.2.2) else refsL r (acc ++ [x.1])
def refsT (S : StD) (root : ByteArray) : List ByteArray × Int := refsL (nodesT S root noT) []
end Go.Proofs.Ytbeldjijnjgbfaa

namespace Go.Proofs.Ytbeldjijnjgbfaa
open Go.RowKit

theorem numF_app (a b : List UInt8) : ∀ n, numF (a ++ b) n = (numF a n).bind (numF b) := by
  induction a with
  | nil => intro n; rfl
  | cons c r ih =>
    intro n
    rw [List.cons_append]
    unfold numF
    by_cases h : c < 48 ∨ 57 < c
    · rw [if_pos h, if_pos h]; rfl
    · rw [if_neg h, if_neg h]; exact ih _
theorem digF_list : ∀ (k n : Nat) (s : ByteArray), (digF k n s).data.toList = (digF k n noT).data.toList ++ s.data.toList
  | 0, n, s => by unfold digF; simp
  | k + 1, n, s => by
    unfold digF
    rw [digF_list k (n / 10) (⟨#[UInt8.ofNat (48 + n % 10)]⟩ ++ s), digF_list k (n / 10) (⟨#[UInt8.ofNat (48 + n % 10)]⟩ ++ noT)]
    simp
theorem num_dig : ∀ (k n m : Nat), numF (digF k n noT).data.toList m = some (m * 10 ^ k + n % 10 ^ k)
  | 0, n, m => by simp [digF, numF, Nat.mod_one]
  | k + 1, n, m => by
    have h1 : (digF (k + 1) n noT).data.toList = (digF k (n / 10) noT).data.toList ++ [UInt8.ofNat (48 + n % 10)] := by
      show (digF k (n / 10) (⟨#[UInt8.ofNat (48 + n % 10)]⟩ ++ noT)).data.toList = _
      rw [digF_list]
      simp
    have h2 : (UInt8.ofNat (48 + n % 10)).toNat = 48 + n % 10 := by rw [UInt8.toNat_ofNat']; omega
    have h3 : ¬ (UInt8.ofNat (48 + n % 10) < 48 ∨ 57 < UInt8.ofNat (48 + n % 10)) := by
      rw [UInt8.lt_iff_toNat_lt, UInt8.lt_iff_toNat_lt, h2]
      show ¬ (48 + n % 10 < 48 ∨ 57 < 48 + n % 10)
      omega
    rw [h1, numF_app, num_dig k (n / 10) m]
    show numF [UInt8.ofNat (48 + n % 10)] (m * 10 ^ k + n / 10 % 10 ^ k) = _
    unfold numF
    rw [if_neg h3, h2]
    unfold numF
    have h4 : n % 10 ^ (k + 1) = n % 10 + 10 * (n / 10 % 10 ^ k) := by rw [Nat.pow_succ, Nat.mul_comm, Nat.mod_mul]
    rw [h4, Nat.pow_succ]
    congr 1
    rw [show m * (10 ^ k * 10) = 10 * (m * 10 ^ k) from by rw [Nat.mul_comm (10 ^ k) 10, ← Nat.mul_assoc, Nat.mul_comm m 10, Nat.mul_assoc]]
    omega
theorem digF_size : ∀ (k n : Nat) (s : ByteArray), (digF k n s).size = k + s.size
  | 0, n, s => by unfold digF; omega
  | k + 1, n, s => by
    unfold digF
    rw [digF_size k, ByteArray.size_append]
    show k + (1 + s.size) = _
    omega
theorem num_dig6 {n : Nat} (h : n < 1000000) : numT (dig6 n) = some n := by
  unfold numT dig6
  rw [num_dig 6 n 0]
  have h1 : (digF 6 n noT).size = 6 := digF_size 6 n noT
  show (if (digF 6 n noT).size = 6 then some (0 * 10 ^ 6 + n % 10 ^ 6) else none) = _
  rw [if_pos h1, Nat.zero_mul, Nat.zero_add, Nat.mod_eq_of_lt h]
/-- What was there stays; what is put is there. -/
theorem get_old {S : StD} {r t x : ByteArray} (h : getS S r = (t, 0)) : getS { S with l := S.l ++ [x] } r = (t, 0) := by
  unfold getS at h ⊢
  cases hn : numT r with
  | none => rw [hn] at h; cases h
  | some n =>
    rw [hn] at h
    dsimp only at h ⊢
    cases hl : S.l[n]? with
    | none => rw [hl] at h; cases h
    | some u =>
      rw [hl] at h
      have hlt : n < S.l.length := (List.getElem?_eq_some_iff.1 hl).1
      rw [List.getElem?_append_left hlt, hl]
      exact h
theorem get_new {S : StD} {x : ByteArray} (h : S.l.length < 1000000) : getS { S with l := S.l ++ [x] } (dig6 S.l.length) = (x, 0) := by
  unfold getS
  rw [num_dig6 h]
  show (match (S.l ++ [x])[S.l.length]? with | none => (noT, (7 : Int)) | some t => (t, 0)) = _
  rw [List.getElem?_append_right (Nat.le_refl _)]
  simp
theorem get_lt {S : StD} {r t : ByteArray} (h : getS S r = (t, 0)) : ∃ n, numT r = some n ∧ n < S.l.length ∧ S.l[n]? = some t := by
  unfold getS at h
  cases hn : numT r with
  | none => rw [hn] at h; cases h
  | some n =>
    rw [hn] at h
    dsimp only at h
    cases hl : S.l[n]? with
    | none => rw [hl] at h; cases h
    | some u =>
      rw [hl] at h
      injection h with h1 _
      exact ⟨n, rfl, (List.getElem?_eq_some_iff.1 hl).1, by rw [← h1]; exact hl⟩
end Go.Proofs.Ytbeldjijnjgbfaa

namespace Go.Proofs.Ytbeldjijnjgbfaa
open Go.RowKit

/-- A store that has grown. -/
def GrowS (S T : StD) : Prop := T.room = S.room ∧ ∃ x, T.l = S.l ++ x
theorem GrowS.refl (S : StD) : GrowS S S := ⟨rfl, [], by rw [List.append_nil]⟩
theorem GrowS.trans {S T U : StD} (h : GrowS S T) (k : GrowS T U) : GrowS S U := by
  obtain ⟨h1, x, h2⟩ := h
  obtain ⟨k1, y, k2⟩ := k
  exact ⟨k1.trans h1, x ++ y, by rw [k2, h2, List.append_assoc]⟩
theorem get_grow {S T : StD} (h : GrowS S T) {r t : ByteArray} (hg : getS S r = (t, 0)) : getS T r = (t, 0) := by
  obtain ⟨_, x, hx⟩ := h
  obtain ⟨n, h1, h2, h3⟩ := get_lt hg
  unfold getS
  rw [h1]
  dsimp only
  rw [hx, List.getElem?_append_left h2, h3]
def leastF (n : NodeD) : NodeD := if n.leaf = true then n else ⟨false, n.keys.set 0 leastT, n.vals⟩
theorem load_is {S : StD} {ref t : ByteArray} {h : Nat} (hh : h ≤ 20) (hg : getS S ref = (t, 0)) (hd : (decP t).2 = 0) (hk : (decP t).1.leaf = true ∨ (decP t).1.keys ≠ []) : loadN S ref h = (leastF (decP t).1, 0) := by
  unfold loadN leastF
  rw [if_neg (by omega), hg]
  dsimp only
  rw [if_neg (fun e => e rfl), if_neg (fun e => by
    rcases e with e | ⟨e1, e2⟩
    · exact e hd
    · rcases hk with h | h
      · rw [e1] at h; cases h
      · exact h e2)]
  by_cases hl : (decP t).1.leaf = true
  · rw [if_pos hl, if_pos hl]
  · rw [if_neg hl, if_neg hl]
theorem load_of {S : StD} {ref : ByteArray} {h : Nat} (hz : (loadN S ref h).2 = 0) : h ≤ 20 ∧ ∃ t, getS S ref = (t, 0) ∧ (decP t).2 = 0 ∧ ((decP t).1.leaf = true ∨ (decP t).1.keys ≠ []) ∧ (loadN S ref h).1 = leastF (decP t).1 := by
  have hz0 := hz
  unfold loadN at hz
  by_cases h1 : 20 < h
  · rw [if_pos h1] at hz; cases hz
  rw [if_neg h1] at hz
  by_cases h2 : (getS S ref).2 ≠ 0
  · rw [if_pos h2] at hz; exact absurd hz h2
  rw [if_neg h2] at hz
  by_cases h3 : (decP (getS S ref).1).2 ≠ 0 ∨ ((decP (getS S ref).1).1.leaf = false ∧ (decP (getS S ref).1).1.keys = [])
  · rw [if_pos h3] at hz; cases hz
  have hg : getS S ref = ((getS S ref).1, 0) := by
    have : (getS S ref).2 = 0 := Decidable.not_not.1 h2
    rw [← this]
  have h4 : (decP (getS S ref).1).2 = 0 := Decidable.not_not.1 (fun e => h3 (.inl e))
  have h5 : (decP (getS S ref).1).1.leaf = true ∨ (decP (getS S ref).1).1.keys ≠ [] := by
    cases hl : (decP (getS S ref).1).1.leaf with
    | true => exact .inl rfl
    | false => exact .inr (fun e => h3 (.inr ⟨hl, e⟩))
  exact ⟨by omega, _, hg, h4, h5, by rw [load_is (by omega) hg h4 h5]⟩
theorem load_grow {S T : StD} (hg : GrowS S T) {ref : ByteArray} {h k : Nat} {n : NodeD} (hz : loadN S ref h = (n, 0)) (hk : k ≤ 20) : loadN T ref k = (n, 0) := by
  obtain ⟨_, t, h1, h2, h3, h4⟩ := load_of (S := S) (ref := ref) (h := h) (by rw [hz])
  rw [load_is hk (get_grow hg h1) h2 h3, ← h4, hz]
theorem put_ok {S : StD} {n : NodeD} (hc : chkN n = 0) (hr : (S.l.length : Int) < S.room) : putN S n = ((dig6 S.l.length, 0), { S with l := S.l ++ [encD n] }) := by
  have h1 : putS S (encD n) = ((dig6 S.l.length, 0), { S with l := S.l ++ [encD n] }) := by unfold putS; rw [if_neg (by omega)]
  have h2 : (dig6 S.l.length).size = 6 := digF_size 6 _ _
  unfold putN
  rw [if_neg (fun e => e hc), h1]
  dsimp only
  rw [if_neg (fun e => e rfl), if_neg (by omega)]
theorem put_full {S : StD} {n : NodeD} (hc : chkN n = 0) (hr : S.room ≤ (S.l.length : Int)) : putN S n = ((noT, 6), S) := by
  have h1 : putS S (encD n) = ((noT, 6), S) := by unfold putS; rw [if_pos hr]
  unfold putN
  rw [if_neg (fun e => e hc), h1]
  dsimp only
  rw [if_pos (by decide)]
theorem put_grow (S : StD) (n : NodeD) : GrowS S (putN S n).2 := by
  have h1 : GrowS S (putS S (encD n)).2 := by
    unfold putS
    by_cases h : S.room ≤ (S.l.length : Int)
    · rw [if_pos h]; exact GrowS.refl S
    · rw [if_neg h]; exact ⟨rfl, [encD n], rfl⟩
  unfold putN
  by_cases h2 : chkN n ≠ 0
  · rw [if_pos h2]; exact GrowS.refl S
  rw [if_neg h2]
  by_cases h3 : (putS S (encD n)).1.2 ≠ 0
  · rw [if_pos h3]; exact h1
  rw [if_neg h3]
  by_cases h4 : (putS S (encD n)).1.1.size = 0 ∨ 120 < (putS S (encD n)).1.1.size
  · rw [if_pos h4]; exact h1
  rw [if_neg h4]; exact h1
theorem put_load {S : StD} {n : NodeD} (hc : chkN n = 0) (hl : S.l.length < 1000000) (hn : n.leaf = true ∨ n.keys ≠ []) {h : Nat} (hh : h ≤ 20) : loadN { S with l := S.l ++ [encD n] } (dig6 S.l.length) h = (leastF n, 0) := by
  have h1 := dec_enc n hc
  have h2 := load_is (S := { S with l := S.l ++ [encD n] }) hh (get_new hl) (by rw [h1]) (by rw [h1]; exact hn)
  rw [h1] at h2
  exact h2
end Go.Proofs.Ytbeldjijnjgbfaa

namespace Go.Proofs.Ytbeldjijnjgbfaa
open Go.RowKit

/-- A child: its key and its ref; its pairs, and its weight. -/
abbrev ChD := Ent × (List Ent × Nat)
def wtC (C : List ChD) : Nat := (C.map (fun c => c.2.2)).sum
def prC (C : List ChD) : List Ent := C.flatMap (fun c => c.2.1)
/-- The first child's key is the least one. -/
def lstC : List ChD → List ChD
  | [] => []
  | c :: r => ((leastT, c.1.2), c.2) :: r
theorem lst_lst (C : List ChD) : lstC (lstC C) = lstC C := by cases C <;> rfl
/-- Node n, of that level (leaves: 0), with the pairs E, and the weight W. -/
def TrN (S : StD) : Nat → NodeD → List Ent → Nat → Prop
  | 0, n, E, W => n = ofE true E ∧ OkL E ∧ E.length ≤ 255 ∧ W = 0
  | i + 1, n, E, W => ∃ C : List ChD, n = ofE false (C.map (·.1)) ∧ OkL (C.map (·.1)) ∧ C.length ≤ 255 ∧ C ≠ [] ∧ E = prC C ∧ W = wtC C + (max C.length 2 - 2) * 2 ^ (i + 1) ∧
    (∀ c ∈ C, c.2.1 ≠ [] ∧ (∀ x ∈ c.2.1, ltK x.1 c.1.1 = false) ∧ ∃ m, (∀ h, h ≤ 20 → loadN S c.1.2 h = (m, 0)) ∧ TrN S i m c.2.1 c.2.2) ∧
    C.Pairwise (fun c d => ∀ x ∈ c.2.1, ltK x.1 d.1.1 = true) ∧ lstC C = C
theorem TrN.grow {S T : StD} (h : GrowS S T) : ∀ (i : Nat) {n : NodeD} {E : List Ent} {W : Nat}, TrN S i n E W → TrN T i n E W
  | 0, _, _, _, ht => ht
  | i + 1, n, E, W, ht => by
    obtain ⟨C, h1, h2, h3, h4, h5, h6, h7, h8, h9⟩ := ht
    refine ⟨C, h1, h2, h3, h4, h5, h6, fun c hc => ?_, h8, h9⟩
    obtain ⟨k1, k2, m, k3, k4⟩ := h7 c hc
    exact ⟨k1, k2, m, fun j hj => load_grow h (k3 20 (Nat.le_refl _)) hj, TrN.grow h i k4⟩
theorem TrN.leaf {S : StD} : ∀ {i : Nat} {n : NodeD} {E : List Ent} {W : Nat}, TrN S i n E W → (n.leaf = true ↔ i = 0)
  | 0, _, _, _, ⟨h, _⟩ => ⟨fun _ => rfl, fun _ => by rw [h]; rfl⟩
  | i + 1, _, _, _, ⟨C, h, _⟩ => ⟨(fun e => by rw [h] at e; cases e), (fun e => by cases e)⟩
theorem lt_via {x y d : ByteArray} (h1 : ltK x d = true) (h2 : ltK y d = false) : ltK x y = true := by
  rcases ltK_tri d y with h | h | h
  · exact ltK_tr h1 h
  · rw [← h]; exact h1
  · rw [h2] at h; cases h
/-- Pairs of children, one behind the other, stand in order. -/
theorem prC_ok : ∀ C : List ChD, (∀ c ∈ C, OkL c.2.1) → (∀ c ∈ C, ∀ x ∈ c.2.1, ltK x.1 c.1.1 = false) → C.Pairwise (fun c d => ∀ x ∈ c.2.1, ltK x.1 d.1.1 = true) → OkL (prC C)
  | [], _, _, _ => ⟨List.Pairwise.nil, fun x hx => by cases hx⟩
  | c :: r, h1, h2, h3 => by
    have hc := List.pairwise_cons.1 h3
    have ih := prC_ok r (fun d hd => h1 d (List.mem_cons_of_mem _ hd)) (fun d hd => h2 d (List.mem_cons_of_mem _ hd)) hc.2
    have hh := h1 c (List.mem_cons_self ..)
    have e : prC (c :: r) = c.2.1 ++ prC r := by unfold prC; rw [List.flatMap_cons]
    rw [e]
    refine ⟨?_, fun x hx => ?_⟩
    · unfold Up
      rw [List.map_append, List.pairwise_append]
      refine ⟨hh.up, ih.up, fun a ha b hb => ?_⟩
      obtain ⟨x, hx, rfl⟩ := List.mem_map.1 ha
      obtain ⟨y, hy, rfl⟩ := List.mem_map.1 hb
      unfold prC at hy
      obtain ⟨d, hd, hy2⟩ := List.mem_flatMap.1 hy
      exact lt_via (hc.1 d hd x hx) (h2 d (List.mem_cons_of_mem _ hd) y hy2)
    · rcases List.mem_append.1 hx with h | h
      · exact hh.ok x h
      · exact ih.ok x h
/-- The pairs stand in order. -/
theorem TrN.up {S : StD} : ∀ (i : Nat) {n : NodeD} {E : List Ent} {W : Nat}, TrN S i n E W → OkL E
  | 0, _, _, _, ⟨_, h, _⟩ => h
  | i + 1, _, _, _, ⟨C, _, _, _, _, h5, _, h7, h8, _⟩ => by
    rw [h5]
    refine prC_ok C (fun c hc => ?_) (fun c hc => (h7 c hc).2.1) h8
    obtain ⟨_, _, m, _, k4⟩ := h7 c hc
    exact TrN.up i k4
end Go.Proofs.Ytbeldjijnjgbfaa

namespace Go.Proofs.Ytbeldjijnjgbfaa
open Go.RowKit

def lookT (E : List Ent) (key : ByteArray) : Option ByteArray := (E.find? (fun x => decide (x.1 = key))).map (·.2)
theorem look_none {E : List Ent} {key : ByteArray} (h : ∀ x ∈ E, x.1 ≠ key) : lookT E key = none := by
  unfold lookT
  rw [List.find?_eq_none.2 (fun x hx => by simpa using h x hx)]
  rfl
theorem look_app (A B : List Ent) (key : ByteArray) : lookT (A ++ B) key = (lookT A key).or (lookT B key) := by
  unfold lookT
  rw [List.find?_append]
  cases A.find? (fun x => decide (x.1 = key)) <;> rfl
/-- The child by which the way goes on. -/
theorem find_child {C : List Ent} (h : OkL C) (hl : C.length ≤ 255) (hne : C ≠ []) (key : ByteArray) : ∃ A c B, C = A ++ c :: B ∧ (findD (ofE false C) key).1 = A.length ∧ (∀ d ∈ B, ltK key d.1 = true) ∧ (A = [] ∨ ltK key c.1 = false) := by
  have hm := (may_iff false C).2 ⟨h, hl⟩
  obtain ⟨A, M, B, rfl, ha, hb, hM⟩ := up_cut key C h.up
  have h1 := cnt_cut ha hb hM
  have h2 := is_cut ha hb hM
  have hf : (findD (ofE false (A ++ (M ++ B))) key).1 = if (!M.isEmpty) = true then A.length else A.length - 1 := by
    unfold findD
    rw [if_pos hm]
    show (if isK ((A ++ (M ++ B)).map (·.1)) key = true then (cntK ((A ++ (M ++ B)).map (·.1)) key, true) else (cntK ((A ++ (M ++ B)).map (·.1)) key - 1, false)).1 = _
    rw [h1, h2]
    cases (!M.isEmpty) <;> rfl
  rcases hM with rfl | ⟨v, rfl⟩
  · rcases List.eq_nil_or_concat A with rfl | ⟨A2, a, e⟩
    · cases B with
      | nil => exact absurd rfl hne
      | cons b r => exact ⟨[], b, r, rfl, hf, fun d hd => hb d (List.mem_cons_of_mem _ hd), .inl rfl⟩
    · rw [List.concat_eq_append] at e
      subst e
      refine ⟨A2, a, B, by simp, ?_, hb, .inr (ltK_as (ha a (by simp)))⟩
      rw [hf]
      simp
  · exact ⟨A, (key, v), B, rfl, hf, hb, .inr (ltK_irr key)⟩
theorem child_split {C : List ChD} {A B : List Ent} {c : Ent} (h : C.map (·.1) = A ++ c :: B) : ∃ P x Q, C = P ++ x :: Q ∧ P.map (·.1) = A ∧ x.1 = c ∧ Q.map (·.1) = B := by
  obtain ⟨P, R, h1, h2, h3⟩ := List.map_eq_append_iff.1 h
  cases R with
  | nil => simp at h3
  | cons x Q =>
    rw [List.map_cons] at h3
    injection h3 with h4 h5
    exact ⟨P, x, Q, h1, h2, h4, h5⟩
theorem prC_app (P Q : List ChD) : prC (P ++ Q) = prC P ++ prC Q := by unfold prC; rw [List.flatMap_append]
theorem prC_cons (c : ChD) (Q : List ChD) : prC (c :: Q) = c.2.1 ++ prC Q := by unfold prC; rw [List.flatMap_cons]
theorem mem_prC {C : List ChD} {x : Ent} (h : x ∈ prC C) : ∃ c ∈ C, x ∈ c.2.1 := by
  unfold prC at h
  exact List.mem_flatMap.1 h
/-- The key is in no other child. -/
theorem look_child {P Q : List ChD} {c : ChD} {key : ByteArray} (h1 : ∀ d ∈ P ++ c :: Q, ∀ x ∈ d.2.1, ltK x.1 d.1.1 = false) (h2 : (P ++ c :: Q).Pairwise (fun c d => ∀ x ∈ c.2.1, ltK x.1 d.1.1 = true)) (hB : ∀ d ∈ Q, ltK key d.1.1 = true) (hA : P = [] ∨ ltK key c.1.1 = false) :
    lookT (prC (P ++ c :: Q)) key = lookT c.2.1 key := by
  rw [prC_app, prC_cons, look_app, look_app]
  have hp : lookT (prC P) key = none := look_none fun x hx e => by
    obtain ⟨a, ha, hxa⟩ := mem_prC hx
    have h3 := (List.pairwise_append.1 h2).2.2 a ha c (List.mem_cons_self ..) x hxa
    rcases hA with h | h
    · rw [h] at ha; cases ha
    · rw [e, h] at h3; cases h3
  have hq : lookT (prC Q) key = none := look_none fun x hx e => by
    obtain ⟨d, hd, hxd⟩ := mem_prC hx
    have h3 := h1 d (List.mem_append_right _ (List.mem_cons_of_mem _ hd)) x hxd
    rw [e, hB d hd] at h3; cases h3
  rw [hp, hq]
  cases lookT c.2.1 key <;> rfl
/-- Down to the leaf that has it, if any has. -/
theorem down_look {S : StD} {key : ByteArray} : ∀ (i : Nat) {n : NodeD} {E : List Ent} {W : Nat}, TrN S i n E W → ∀ (f : Nat) (above : List StepD) (ref : ByteArray), (∀ h, h ≤ 20 → loadN S ref h = (n, 0)) → above.length + 1 + i ≤ 20 → i < f →
    ∃ steps leaf E0, downN S key f above ref = (above ++ steps, leaf, 0) ∧ steps.length = i ∧ TrN S 0 leaf E0 0 ∧ lookT E0 key = lookT E key
  | 0, n, E, W, ht, f, above, ref, hl, hh, hf => by
    obtain ⟨g, rfl⟩ : ∃ g, f = g + 1 := ⟨f - 1, by omega⟩
    have hn := ht
    obtain ⟨h1, h2, h3, h4⟩ := ht
    refine ⟨[], n, E, ?_, rfl, ⟨h1, h2, h3, rfl⟩, rfl⟩
    unfold downN
    rw [hl _ (by omega), if_pos (.inr (by rw [h1]; rfl)), List.append_nil]
  | i + 1, n, E, W, ht, f, above, ref, hl, hh, hf => by
    obtain ⟨g, rfl⟩ : ∃ g, f = g + 1 := ⟨f - 1, by omega⟩
    obtain ⟨C, h1, h2, h3, h4, h5, _, h7, h8, _⟩ := ht
    obtain ⟨A, c, B, hc1, hc2, hc3, hc4⟩ := find_child h2 (by rw [List.length_map]; exact h3) (by simpa using h4) key
    obtain ⟨P, x, Q, rfl, rfl, rfl, rfl⟩ := child_split hc1
    obtain ⟨_, _, m, k3, k4⟩ := h7 x (by simp)
    have hv : n.vals.getD (findD n key).1 noT = x.1.2 := by
      rw [h1, hc2]
      unfold ofE
      simp
    obtain ⟨steps, leaf, E0, q1, q2, q3, q4⟩ := down_look i k4 g (above ++ [(n, (findD n key).1)]) x.1.2 k3 (by rw [List.length_append, List.length_singleton]; omega) (by omega)
    refine ⟨(n, (findD n key).1) :: steps, leaf, E0, ?_, by rw [List.length_cons, q2], q3, ?_⟩
    · unfold downN
      rw [hl _ (by omega), if_neg (fun e => by
        rcases e with e | e
        · exact e rfl
        · rw [h1] at e; cases e)]
      show downN S key g (above ++ [(n, (findD n key).1)]) (n.vals.getD (findD n key).1 noT) = _
      rw [hv, q1, List.append_assoc]
      rfl
    · rw [q4, h5]
      exact (look_child (fun d hd => (h7 d hd).2.1) h8 (fun d hd => hc3 d.1 (List.mem_map.2 ⟨d, hd, rfl⟩)) (hc4.imp (fun e => by simpa using e) id)).symm
theorem leaf_get {E : List Ent} (h : OkL E) (hl : E.length ≤ 255) (key : ByteArray) : (if (findD (ofE true E) key).2 = true then ((ofE true E).vals.getD (findD (ofE true E) key).1 noT, (0 : Int)) else (noT, 8)) = match lookT E key with | some v => (v, 0) | none => (noT, 8) := by
  have hm := (may_iff true E).2 ⟨h, hl⟩
  obtain ⟨A, M, B, rfl, ha, hb, hM⟩ := up_cut key E h.up
  have h1 := cnt_cut ha hb hM
  have h2 := is_cut ha hb hM
  have hf : findD (ofE true (A ++ (M ++ B))) key = if (!M.isEmpty) = true then (A.length, true) else (A.length - 1, false) := by
    unfold findD
    rw [if_pos hm]
    show (if isK ((A ++ (M ++ B)).map (·.1)) key = true then (cntK ((A ++ (M ++ B)).map (·.1)) key, true) else (cntK ((A ++ (M ++ B)).map (·.1)) key - 1, false)) = _
    rw [h1, h2]
  have ea : lookT A key = none := look_none fun x hx => ltK_ne (ha x hx)
  have eb : lookT B key = none := look_none fun x hx e => ltK_ne (hb x hx) e.symm
  rw [hf, look_app, look_app, ea, eb]
  rcases hM with rfl | ⟨v, rfl⟩
  · rfl
  · have el : lookT [(key, v)] key = some v := by unfold lookT; simp
    rw [el]
    show ((ofE true (A ++ ([(key, v)] ++ B))).vals.getD A.length noT, (0 : Int)) = (v, 0)
    unfold ofE
    simp
/-- What Get tells. -/
theorem get_is {S : StD} {i : Nat} {n : NodeD} {E : List Ent} {W : Nat} {root : ByteArray} (ht : TrN S i n E W) (hl : ∀ h, h ≤ 20 → loadN S root h = (n, 0)) (hi : i < 20) (hr : root.size ≠ 0) (key : ByteArray) : getT S root key = match lookT E key with | some v => (v, 0) | none => (noT, 8) := by
  obtain ⟨steps, leaf, E0, h1, _, ⟨h2, h3, h4, _⟩, h5⟩ := down_look (key := key) i ht 21 [] root hl (by simp; omega) (by omega)
  have hd : downT S root key = (steps, leaf, 0) := by unfold downT; rw [if_neg hr, h1]; rfl
  unfold getT
  rw [hd]
  dsimp only
  rw [if_neg (fun e => e rfl), ← h5, h2]
  exact leaf_get h3 h4 key
theorem down_empty (S : StD) (key : ByteArray) : downT S noT key = ([], ofE true [], 0) := if_pos rfl
theorem get_empty {S : StD} (key : ByteArray) : getT S noT key = (noT, 8) := by
  unfold getT
  rw [down_empty]
  dsimp only
  rw [if_neg (fun e => e rfl)]
  exact leaf_get (E := []) ⟨List.Pairwise.nil, fun x hx => by cases hx⟩ (by simp) key
end Go.Proofs.Ytbeldjijnjgbfaa
