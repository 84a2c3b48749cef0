/-
  Texts put together: MoA, MoB.
-/
import Derived.Test.YteimpebfenpifaaGreatDoorMap
import Derived.Test.YteimpebfenpifaaGreatDoorMg10
import Derived.Lib.ItoaNum
import Derived.Test.YteimpebfenpifaaGreatDoorRepZ
import Derived.Test.YteimpebfenpifaaGreatDoorMg9
import Derived.Test.YteimpebfenpifaaGreatDoorMg4
namespace Go.Proofs.YteimpebfenpifaaGreatDoor
open Go.RowKit

abbrev noB : ByteArray := ⟨#[]⟩
abbrev rootB : ByteArray := ⟨#[47]⟩
/-- A thing of the package's. -/
structure ThD where
  dir : Bool
  ents : List (ByteArray × Int)
  text : ByteArray
  links : Int
structure MoD where
  l : List (Int × ThD)
  last : Int
structure OpD where
  do_ : Int
  path : ByteArray
  dst : ByteArray
  off : Int
  len : Int
  data : ByteArray
structure AnsD where
  code : Int
  n : Int
  data : ByteArray
  names : List ByteArray
deriving DecidableEq
def noA (e : Int) : AnsD := ⟨e, 0, noB, []⟩

/-! ### by numbers -/
def setT (M : MoD) (n : Int) (t : ThD) : MoD := { M with l := M.l.map (fun x => if x.1 = n then (n, t) else x) }
def addT (M : MoD) (t : ThD) : MoD := ⟨M.l ++ [(M.last + 1, t)], M.last + 1⟩
def delT (M : MoD) (n : Int) : MoD := { M with l := dropL M.l n }
def dirOf (M : MoD) (n : Int) : Bool := match findL M.l n with | none => false | some t => t.dir
def entsOf (M : MoD) (n : Int) : List (ByteArray × Int) := match findL M.l n with | none => [] | some t => t.ents
def stepM (M : MoD) : Int → List ByteArray → Int × Int
  | n, [] => (n, 0)
  | n, x :: r => if dirOf M n = false then (0, 11) else match findL (entsOf M n) x with
    | none => (0, 8)
    | some k => stepM M k r
def leadM (M : MoD) (p : ByteArray) : Int × Int := if (splitD p).2 = 0 then stepM M 0 (splitD p).1 else (0, (splitD p).2)
def fileM (M : MoD) (p : ByteArray) : Int × Int := if (leadM M p).2 = 0 ∧ dirOf M (leadM M p).1 = true then (0, 10) else leadM M p
def dirM (M : MoD) (p : ByteArray) : Int × Int := if (leadM M p).2 = 0 ∧ dirOf M (leadM M p).1 = false then (0, 11) else leadM M p
/-- Where the entry of a path may stand: a directory, a name; or an error. -/
def freeM (M : MoD) (p : ByteArray) : Int × ByteArray × Int :=
  if p = rootB then (0, noB, 9) else if (parD p).e ≠ 0 then (0, noB, (parD p).e) else if (dirM M (parD p).p).2 ≠ 0 then (0, noB, (dirM M (parD p).p).2) else
  if (findL (entsOf M (dirM M (parD p).p).1) (parD p).n).isSome = true then (0, noB, 9) else ((dirM M (parD p).p).1, (parD p).n, 0)

/-- A number's digits. -/
def digitsB (n : Nat) : ByteArray := ⟨(Lib.decDigits n).toArray⟩

/-! ### by paths -/
structure Th where
  dir : Bool
  text : ByteArray
deriving DecidableEq
abbrev PathD := List ByteArray
structure GD where
  E : List (PathD × Nat)
  T : List Th
deriving DecidableEq
def atE (G : GD) (l : PathD) : Option Nat := if l = [] then some 0 else findL G.E l
def dirG (G : GD) (n : Nat) : Bool := match G.T[n]? with | none => false | some t => t.dir
def textG (G : GD) (n : Nat) : ByteArray := match G.T[n]? with | none => noB | some t => t.text
def linksG (G : GD) (n : Nat) : Nat := G.E.countP (fun x => x.2 == n)
def stepG (G : GD) : PathD → PathD → Nat × Int
  | pre, [] => ((atE G pre).getD 0, 0)
  | pre, x :: r => if dirG G ((atE G pre).getD 0) = false then (0, 11) else match atE G (pre ++ [x]) with
    | none => (0, 8)
    | some _ => stepG G (pre ++ [x]) r
def leadG (G : GD) (p : ByteArray) : Nat × Int := if (splitD p).2 = 0 then stepG G [] (splitD p).1 else (0, (splitD p).2)
def freeG (G : GD) (p : ByteArray) : Int :=
  if (splitD p).2 ≠ 0 then (splitD p).2 else if (splitD p).1 = [] then 9 else
  if (stepG G [] (splitD p).1.dropLast).2 ≠ 0 then (stepG G [] (splitD p).1.dropLast).2 else
  if dirG G (stepG G [] (splitD p).1.dropLast).1 = false then 11 else if (atE G (splitD p).1).isSome = true then 9 else 0
/-- The names below a path. -/
def kidG (l : PathD) (x : PathD × Nat) : Option ByteArray := if x.1 ≠ [] ∧ x.1.dropLast = l then some (x.1.getLastD noB) else none
def kidsG (G : GD) (l : PathD) : List ByteArray := G.E.filterMap (kidG l)
def insB (x : ByteArray) : List ByteArray → List ByteArray
  | [] => [x]
  | y :: r => if x.data.toList < y.data.toList then x :: y :: r else y :: insB x r
def sortB : List ByteArray → List ByteArray
  | [] => []
  | x :: r => insB x (sortB r)
def mvP (a b : PathD) (l : PathD) : PathD := if a <+: l then b ++ l.drop a.length else l
def addG (G : GD) (p : ByteArray) (dir : Bool) : GD := ⟨G.E ++ [((splitD p).1, G.T.length)], G.T ++ [⟨dir, noB⟩]⟩
def linkG (G : GD) (n : Nat) (p : ByteArray) : GD := { G with E := G.E ++ [((splitD p).1, n)] }
def dropG (G : GD) (p : ByteArray) : GD := { G with E := G.E.filter (fun x => !decide (x.1 = (splitD p).1)) }
def moveG (G : GD) (p q : ByteArray) : GD := { G with E := G.E.map (fun x => (mvP (splitD p).1 (splitD q).1 x.1, x.2)) }
def textSet (G : GD) (n : Nat) (s : ByteArray) : GD := { G with T := G.T.set n { (G.T[n]?.getD ⟨false, noB⟩) with text := s } }
/-- The first n bytes, or bytes 0 behind. -/
def sizedB (s : ByteArray) (n : Nat) : ByteArray := ⟨((pb s ++ List.replicate (n - s.size) 0).take n).toArray⟩
def writB (s : ByteArray) (off : Nat) (d : ByteArray) : ByteArray := if d.size = 0 then s else ⟨((pb s ++ List.replicate (off - s.size) 0).take off ++ pb d ++ (pb s).drop (off + d.size)).toArray⟩
def cutB (s : ByteArray) (off len : Nat) : ByteArray := ⟨(((pb s).drop off).take len).toArray⟩

def fileG (G : GD) (p : ByteArray) (k : Nat → AnsD × GD) : AnsD × GD :=
  if (leadG G p).2 ≠ 0 then (noA (leadG G p).2, G) else if dirG G (leadG G p).1 = true then (noA 10, G) else k (leadG G p).1
def makeG (G : GD) (p : ByteArray) (dir : Bool) : AnsD × GD := if freeG G p ≠ 0 then (noA (freeG G p), G) else (noA 0, addG G p dir)
/-- What is asked, answered: by the document. -/
def doG (G : GD) (o : OpD) : AnsD × GD :=
  if o.do_ = 0 then makeG G o.path false
  else if o.do_ = 1 then makeG G o.path true
  else if o.do_ = 2 then fileG G o.path fun n => if freeG G o.dst ≠ 0 then (noA (freeG G o.dst), G) else (noA 0, linkG G n o.dst)
  else if o.do_ = 3 then fileG G o.path fun _ => (noA 0, dropG G o.path)
  else if o.do_ = 4 then
    if o.path = rootB then (noA 1, G) else if (leadG G o.path).2 ≠ 0 then (noA (leadG G o.path).2, G) else if dirG G (leadG G o.path).1 = false then (noA 11, G)
    else if kidsG G (splitD o.path).1 ≠ [] then (noA 14, G) else (noA 0, dropG G o.path)
  else if o.do_ = 5 then
    if o.path = rootB then (noA 1, G) else if (leadG G o.path).2 ≠ 0 then (noA (leadG G o.path).2, G) else if witD o.path o.dst = true then (noA 1, G)
    else if freeG G o.dst ≠ 0 then (noA (freeG G o.dst), G) else (noA 0, moveG G o.path o.dst)
  else if o.do_ = 6 then fileG G o.path fun n => if o.off < 0 ∨ o.len < 0 then (noA 1, G) else (⟨0, ((cutB (textG G n) o.off.toNat o.len.toNat).size : Nat), cutB (textG G n) o.off.toNat o.len.toNat, []⟩, G)
  else if o.do_ = 7 then fileG G o.path fun n => if o.off < 0 then (noA 1, G) else if 16384 < o.off + (o.data.size : Int) then (noA 13, G)
    else (⟨0, (o.data.size : Nat), noB, []⟩, textSet G n (writB (textG G n) o.off.toNat o.data))
  else if o.do_ = 8 then fileG G o.path fun n => if o.len < 0 then (noA 1, G) else if 16384 < o.len then (noA 13, G) else (noA 0, textSet G n (sizedB (textG G n) o.len.toNat))
  else if o.do_ = 9 then
    if (leadG G o.path).2 ≠ 0 then (noA (leadG G o.path).2, G) else if dirG G (leadG G o.path).1 = true then (⟨0, ((kidsG G (splitD o.path).1).length : Nat), ⟨#[100, 105, 114]⟩, []⟩, G)
    else (⟨0, ((textG G (leadG G o.path).1).size : Nat), ⟨#[102, 105, 108, 101]⟩, [digitsB (linksG G (leadG G o.path).1)]⟩, G)
  else if o.do_ = 10 then
    if (leadG G o.path).2 ≠ 0 then (noA (leadG G o.path).2, G) else if dirG G (leadG G o.path).1 = false then (noA 11, G) else (⟨0, 0, noB, sortB (kidsG G (splitD o.path).1)⟩, G)
  else (noA 1, G)
end Go.Proofs.YteimpebfenpifaaGreatDoor

namespace Go.Proofs.YteimpebfenpifaaGreatDoor
open Go.RowKit Go.ChangeShapes Go.WideShapes Go.ChangeAt

def thP : Option Nat → Value
  | none => .pointer none
  | some p => .pointer (some ⟨p, 0, none⟩)
def dP : Option Nat → DataW Unit
  | none => .lit (.bool false)
  | some p => .lit (.int .i64 p)
def rdP : Value → Option (DataW Unit × List MemPlace)
  | .pointer none => some (dP none, [])
  | .pointer (some ⟨p, 0, none⟩) => some (dP (some p), [])
  | _ => none
theorem zeroTh (w : World) : (zeroValue 54).run Tryz.prog w = .ok (thP none) w := by kernel_rfl
theorem zeroI (w : World) : (zeroValue 3).run Tryz.prog w = .ok (.int .i64 0) w := by kernel_rfl
theorem mint_wf {k : Int} (h1 : 0 ≤ k) (h2 : k ≤ 4611686018427387904) : (Lit.int .i64 k).wf = true := by
  have h3 : IntKind.i64.min ≤ k ∧ k ≤ IntKind.i64.max := by
    rw [show IntKind.i64.min = -9223372036854775808 from rfl, show IntKind.i64.max = 9223372036854775807 from rfl]
    omega
  simpa [Lit.wf] using h3
/-- Things by their numbers. -/
def ThS : MapSp Tryz.prog Int (Option Nat) where
  t := 56
  kt := 3
  et := 54
  und := Tryz.underlying56
  keyed := Maps.int_keyed Tryz.underlying3
  kv := .int .i64
  kl := .int .i64
  okK k := (Lit.int .i64 k).wf = true
  keyOf k h := Maps.keyOf_int_mk Tryz.underlying3 h
  keyInv v l h := by
    obtain ⟨x, h1, h2, h3⟩ := Maps.keyOf_int_inv Tryz.underlying3 h
    exact ⟨x, h1, h2, h3⟩
  klInj k k' h := by injection h
  kvInj k k' h := by injection h
  vv := thP
  dv := dP
  rd := rdP
  rdMk x := by cases x <;> rfl
  rdInv v y h := by
    unfold rdP at h
    split at h
    · cases h; exact ⟨none, rfl, rfl⟩
    · cases h; exact ⟨some _, rfl, rfl⟩
    · cases h
  dvInj x y h := by
    cases x <;> cases y <;> simp [dP] at h ⊢
    omega
  vvInj x y h := by
    cases x <;> cases y <;> simp [thP] at h ⊢
    exact h
  z := none
  zero := zeroTh
def enkl (k : ByteArray) : Lit := .string k.data.toList
/-- Numbers by names. -/
def EnS : MapSp Tryz.prog ByteArray Int where
  t := 65
  kt := 9
  et := 3
  und := Tryz.underlying65
  keyed := Maps.string_keyed Tryz.underlying9
  kv := .string
  kl := enkl
  okK k := k.size ≤ maxLen
  keyOf k h := WideMaps.keyOf_string_mk Tryz.underlying9 h
  keyInv v l h := by
    have hk := Tryz.underlying9
    cases v <;> simp [Go.keyOf, hk, mapKey] at h
    rename_i k
    obtain ⟨h1, rfl⟩ := h
    exact ⟨k, rfl, rfl, h1⟩
  klInj k k' h := by
    unfold enkl at h
    injection h with h
    have h2 : k.data = k'.data := Array.toList_inj.1 h
    cases k; cases k'; simp_all
  kvInj k k' h := by injection h
  vv := .int .i64
  dv n := .lit (.int .i64 n)
  rd v := match v with | .int .i64 n => some (.lit (.int .i64 n), []) | _ => none
  rdMk x := rfl
  rdInv v y h := by
    split at h
    · cases h; exact ⟨_, rfl, rfl⟩
    · cases h
  dvInj x y h := by
    injection h with h; injection h
  vvInj x y h := by injection h
  z := 0
  zero := zeroI

structure RowD where
  p : Nat
  em : Option Nat
  t : ThD
structure TrD where
  b : Nat
  m : Nat
  rows : List (Int × RowD)
  last : Int
def TrD.M (x : TrD) : MoD := ⟨x.rows.map (fun r => (r.1, r.2.t)), x.last⟩
def RowD.blk (r : RowD) : List Nat := r.p :: r.em.toList
def TrD.blocks (x : TrD) : List Nat := x.b :: x.m :: x.rows.flatMap (fun r => r.2.blk)
def thA (em : Option Nat) (t : ThD) : Array Value := #[.bool t.dir, .map em, .string t.text, .int .i64 t.links]
def EmAt (w : World) (em : Option Nat) (e : List (ByteArray × Int)) : Prop := match em with | none => e = [] | some me => MapAt EnS w me e
def RowAt (w : World) (r : RowD) : Prop := Box w r.p 67 (thA r.em r.t) ∧ EmAt w r.em r.t.ents ∧ r.em.isSome = r.t.dir
structure TrAt (w : World) (x : TrD) : Prop where
  box : Box w x.b 58 #[.map (some x.m), .int .i64 x.last]
  map : MapAt ThS w x.m (x.rows.map (fun r => (r.1, some r.2.p)))
  row : ∀ r ∈ x.rows, RowAt w r.2
  bm : x.b ≠ x.m
  self : ∀ r ∈ x.rows, x.b ∉ r.2.blk ∧ x.m ∉ r.2.blk ∧ ∀ e, r.2.em = some e → e ≠ r.2.p
  disj : ∀ r ∈ x.rows, ∀ q ∈ x.rows, r.1 ≠ q.1 → ∀ k ∈ r.2.blk, k ∉ q.2.blk
theorem RowAt.of {w w' : World} {r : RowD} (h : RowAt w r) (hk : ∀ k ∈ r.blk, w'.heap[k]? = w.heap[k]?) : RowAt w' r := by
  obtain ⟨p, em, t⟩ := r
  obtain ⟨h1, h2, h3⟩ := h
  refine ⟨h1.of (hk _ (by simp [RowD.blk])), ?_, h3⟩
  cases em with
  | none => exact h2
  | some me => exact MapAt.of h2 (hk me (by simp [RowD.blk]))
theorem RowAt.lt {w : World} {r : RowD} (h : RowAt w r) : ∀ k ∈ r.blk, k < w.heap.size := by
  obtain ⟨p, em, t⟩ := r
  obtain ⟨h1, h2, h3⟩ := h
  unfold RowD.blk
  intro k hk
  rcases List.mem_cons.1 hk with e | hk
  · rw [e]; exact h1.lt
  · cases em with
    | none => cases hk
    | some me => rw [show k = me by simpa using hk]; exact MapAt.lt h2
theorem TrAt.lt {w : World} {x : TrD} (h : TrAt w x) : ∀ k ∈ x.blocks, k < w.heap.size := by
  intro k hk
  unfold TrD.blocks at hk
  rcases List.mem_cons.1 hk with rfl | hk
  · exact h.box.lt
  · rcases List.mem_cons.1 hk with rfl | hk
    · exact h.map.lt
    · obtain ⟨r, hr, hk⟩ := List.mem_flatMap.1 hk
      exact (h.row r hr).lt k hk
theorem TrAt.of {w w' : World} {x : TrD} (h : TrAt w x) (hk : ∀ k ∈ x.blocks, w'.heap[k]? = w.heap[k]?) : TrAt w' x :=
  ⟨h.box.of (hk _ (by simp [TrD.blocks])), h.map.of (hk _ (by simp [TrD.blocks])), fun r hr => (h.row r hr).of (fun k hb => hk k (by unfold TrD.blocks; exact List.mem_cons_of_mem _ (List.mem_cons_of_mem _ (List.mem_flatMap.2 ⟨r, hr, hb⟩)))), h.bm, h.self, h.disj⟩
theorem TrAt.keep {w w' : World} {x : TrD} (h : TrAt w x) (hb : Below w.heap.size w w') : TrAt w' x := h.of (fun k hk => hb.block k (h.lt k hk))
theorem TrAt.chg {S : List Nat} {w w' : World} {x : TrD} (h : TrAt w x) (hc : Chg S w w') (hS : ∀ k ∈ x.blocks, k ∉ S) : TrAt w' x := h.of (fun k hk => hc.block k (h.lt k hk) (hS k hk))
theorem TrAt.nodup {w : World} {x : TrD} (h : TrAt w x) : NoDupL x.rows := by
  have := h.map.nodup
  unfold NoDupL at *
  rw [List.pairwise_map] at this
  exact this
theorem TrD.find (x : TrD) (n : Int) : findL x.M.l n = (findL x.rows n).map (·.t) := findL_map (fun (_ : Int) (r : RowD) => r.t) n x.rows
theorem TrD.findP (x : TrD) (n : Int) : findL (x.rows.map (fun r => (r.1, some r.2.p))) n = (findL x.rows n).map (fun r => some r.p) := findL_map (fun (_ : Int) (r : RowD) => some r.p) n x.rows
theorem TrD.row {x : TrD} {n : Int} {t : ThD} (h : findL x.M.l n = some t) : ∃ r, findL x.rows n = some r ∧ r.t = t := by
  rw [x.find] at h
  exact Option.map_eq_some_iff.1 h
theorem TrAt.at_ {w : World} {x : TrD} (h : TrAt w x) {n : Int} {r : RowD} (hr : findL x.rows n = some r) : RowAt w r := h.row _ (findL_mem hr)
theorem row_mem {x : TrD} {n : Int} {r : RowD} (hr : findL x.rows n = some r) : (∀ k ∈ r.blk, k ∈ x.blocks) := fun k hk => by
  unfold TrD.blocks
  exact List.mem_cons_of_mem _ (List.mem_cons_of_mem _ (List.mem_flatMap.2 ⟨_, findL_mem hr, hk⟩))

def setR (x : TrD) (n : Int) (t : ThD) : TrD := { x with rows := x.rows.map (fun q => (q.1, if q.1 = n then { q.2 with t := t } else q.2)) }
theorem setR_blk (x : TrD) (n : Int) (t : ThD) : (setR x n t).blocks = x.blocks := by
  unfold TrD.blocks setR
  dsimp only
  rw [List.flatMap_map]
  congr 2
  congr 1
  funext q
  dsimp only
  split <;> rfl
theorem setR_M (x : TrD) (n : Int) (t : ThD) (j : Int) : findL (setR x n t).M.l j = if j = n then (findL x.M.l n).map (fun _ => t) else findL x.M.l j := by
  rw [TrD.find, TrD.find, TrD.find]
  unfold setR
  dsimp only
  rw [findL_map (fun (k : Int) (r : RowD) => if k = n then { r with t := t } else r)]
  by_cases e : j = n
  · subst e
    simp [Option.map_map, Function.comp_def]
  · simp [e]
theorem setR_last (x : TrD) (n : Int) (t : ThD) : (setR x n t).M.last = x.M.last := rfl
theorem setR_nodup {x : TrD} (h : NoDupL x.rows) (n : Int) (t : ThD) : NoDupL (setR x n t).M.l := by
  unfold setR TrD.M
  dsimp only
  exact nodup_map (fun _ (r : RowD) => r.t) (nodup_map (fun k (r : RowD) => if k = n then { r with t := t } else r) h)
/-- A thing has changed. -/
theorem TrAt.setAt {w w' : World} {x : TrD} {n : Int} {r : RowD} (h : TrAt w x) (hr : findL x.rows n = some r) {t : ThD} (hc : Chg r.blk w w') (ha : RowAt w' { r with t := t }) : TrAt w' (setR x n t) := by
  have hmem := findL_mem hr
  have hs := h.self _ hmem
  refine ⟨h.box.of (hc.block _ h.box.lt hs.1), ?_, ?_, h.bm, ?_, ?_⟩
  · have := h.map.of (hc.block _ h.map.lt hs.2.1)
    unfold setR
    dsimp only
    rw [List.map_map]
    rw [show ((fun r : Int × RowD => (r.1, some r.2.p)) ∘ fun q : Int × RowD => (q.1, if q.1 = n then { q.2 with t := t } else q.2)) = fun r => (r.1, some r.2.p) from by
      funext q; dsimp only [Function.comp]; split <;> rfl]
    exact this
  · intro q hq
    unfold setR at hq
    obtain ⟨u, hu, rfl⟩ := List.mem_map.1 hq
    dsimp only
    by_cases e : u.1 = n
    · rw [if_pos e]
      have : findL x.rows u.1 = some u.2 := findL_of_mem h.nodup hu
      rw [e, hr] at this
      rw [← Option.some.inj this]
      exact ha
    · rw [if_neg e]
      refine (h.row u hu).of (fun k hk => hc.block k ((h.row u hu).lt k hk) ?_)
      exact h.disj u hu _ hmem e k hk
  · intro q hq
    unfold setR at hq
    obtain ⟨u, hu, rfl⟩ := List.mem_map.1 hq
    have := h.self u hu
    dsimp only
    split <;> exact this
  · intro q hq q' hq' hne
    unfold setR at hq hq'
    obtain ⟨u, hu, rfl⟩ := List.mem_map.1 hq
    obtain ⟨u', hu', rfl⟩ := List.mem_map.1 hq'
    have := h.disj u hu u' hu' hne
    have e1 : ∀ v : Int × RowD, (if v.1 = n then { v.2 with t := t } else v.2).blk = v.2.blk := by intro v; split <;> rfl
    dsimp only at *
    rw [e1, e1]
    exact this
def addR (x : TrD) (r : RowD) : TrD := { x with rows := x.rows ++ [(x.last + 1, r)], last := x.last + 1 }
theorem addR_M (x : TrD) (r : RowD) (j : Int) (h : findL x.M.l (x.last + 1) = none) : findL (addR x r).M.l j = if j = x.last + 1 then some r.t else findL x.M.l j := by
  rw [TrD.find, TrD.find]
  rw [TrD.find] at h
  unfold addR
  dsimp only
  rw [findL_app, findL_cons]
  by_cases e : j = x.last + 1
  · subst e
    rw [if_pos rfl, if_pos rfl]
    rw [Option.map_eq_none_iff] at h
    rw [h]; rfl
  · rw [if_neg e, if_neg (Ne.symm e), findL_nil, Option.or_none]
/-- A thing has come. -/
theorem TrAt.addAt {w w' : World} {x : TrD} {r : RowD} (h : TrAt w x) (hnone : findL x.M.l (x.last + 1) = none) (hc : Chg [x.b, x.m] w w') (hb : Box w' x.b 58 #[.map (some x.m), .int .i64 (x.last + 1)])
    (hm : MapAt ThS w' x.m (putL (x.rows.map (fun r => (r.1, some r.2.p))) (x.last + 1) (some r.p))) (ha : RowAt w' r) (hs : ∀ k ∈ r.blk, k ∉ x.blocks) (he : ∀ e, r.em = some e → e ≠ r.p) : TrAt w' (addR x r) := by
  have hn2 : findL (x.rows.map (fun r => (r.1, some r.2.p))) (x.last + 1) = none := by
    rw [TrD.find] at hnone
    rw [TrD.findP, Option.map_eq_none_iff]
    exact Option.map_eq_none_iff.1 hnone
  rw [putL_new hn2] at hm
  have hrow : ∀ q ∈ x.rows, ∀ k ∈ q.2.blk, k ∈ x.blocks := fun q hq k hk => by
    unfold TrD.blocks
    exact List.mem_cons_of_mem _ (List.mem_cons_of_mem _ (List.mem_flatMap.2 ⟨q, hq, hk⟩))
  refine ⟨hb, ?_, ?_, h.bm, ?_, ?_⟩
  · unfold addR
    dsimp only
    rw [List.map_append]
    exact hm
  · intro q hq
    unfold addR at hq
    rcases List.mem_append.1 hq with hq | hq
    · have hs := h.self q hq
      refine (h.row q hq).of (fun k hk => hc.block k ((h.row q hq).lt k hk) ?_)
      intro hm
      rcases List.mem_cons.1 hm with rfl | hm
      · exact hs.1 hk
      · rw [List.mem_singleton.1 hm] at hk
        exact hs.2.1 hk
    · rw [List.mem_singleton.1 hq]; exact ha
  · intro q hq
    unfold addR at hq
    rcases List.mem_append.1 hq with hq | hq
    · exact h.self q hq
    · rw [List.mem_singleton.1 hq]
      exact ⟨fun hk => hs _ hk (by simp [TrD.blocks, addR]), fun hk => hs _ hk (by simp [TrD.blocks, addR]), he⟩
  · intro q hq q' hq' hne k hk hk'
    unfold addR at hq hq'
    rcases List.mem_append.1 hq with hq | hq
    · rcases List.mem_append.1 hq' with hq' | hq'
      · exact h.disj q hq q' hq' hne k hk hk'
      · rw [List.mem_singleton.1 hq'] at hk'
        exact hs k hk' (hrow q hq k hk)
    · rcases List.mem_append.1 hq' with hq' | hq'
      · rw [List.mem_singleton.1 hq] at hk
        exact hs k hk (hrow q' hq' k hk')
      · rw [List.mem_singleton.1 hq, List.mem_singleton.1 hq'] at hne
        exact hne rfl
def delR (x : TrD) (n : Int) : TrD := { x with rows := dropL x.rows n }
theorem dropL_map {K V W : Type} [DecidableEq K] (f : V → W) (k : K) (l : List (K × V)) : dropL (l.map (fun x => (x.1, f x.2))) k = (dropL l k).map (fun x => (x.1, f x.2)) := by
  unfold dropL
  rw [List.filter_map]
  rfl
theorem delR_M (x : TrD) (n : Int) (j : Int) : findL (delR x n).M.l j = if j = n then none else findL x.M.l j := by
  rw [TrD.find, TrD.find]
  unfold delR
  dsimp only
  by_cases e : j = n
  · subst e; rw [dropL_same, if_pos rfl]; rfl
  · rw [dropL_other e, if_neg e]
theorem TrAt.delAt {w w' : World} {x : TrD} {n : Int} (h : TrAt w x) (hc : Chg [x.m] w w') (hm : MapAt ThS w' x.m (dropL (x.rows.map (fun r => (r.1, some r.2.p))) n)) : TrAt w' (delR x n) := by
  have hsub : ∀ q ∈ (delR x n).rows, q ∈ x.rows := fun q hq => (List.mem_filter.1 hq).1
  refine ⟨h.box.of (hc.block _ h.box.lt (by simpa using h.bm)), ?_, ?_, h.bm, fun q hq => h.self q (hsub q hq), fun q hq q' hq' => h.disj q (hsub q hq) q' (hsub q' hq')⟩
  · rw [dropL_map (fun r : RowD => some r.p)] at hm
    exact hm
  · intro q hq
    have hs := h.self q (hsub q hq)
    refine (h.row q (hsub q hq)).of (fun k hk => hc.block k ((h.row q (hsub q hq)).lt k hk) ?_)
    intro hm
    rw [List.mem_singleton.1 hm] at hk
    exact hs.2.1 hk
theorem delR_blk (x : TrD) (n : Int) : ∀ k ∈ (delR x n).blocks, k ∈ x.blocks := by
  intro k hk
  unfold TrD.blocks delR at *
  dsimp only at hk
  rcases List.mem_cons.1 hk with h | hk
  · rw [h]; simp
  · rcases List.mem_cons.1 hk with h | hk
    · rw [h]; simp
    · obtain ⟨r, hr, hk⟩ := List.mem_flatMap.1 hk
      exact List.mem_cons_of_mem _ (List.mem_cons_of_mem _ (List.mem_flatMap.2 ⟨r, (List.mem_filter.1 hr).1, hk⟩))
theorem addR_blk (x : TrD) (r : RowD) : ∀ k ∈ (addR x r).blocks, k ∈ x.blocks ∨ k ∈ r.blk := by
  intro k hk
  unfold TrD.blocks addR at *
  dsimp only at hk
  rcases List.mem_cons.1 hk with h | hk
  · rw [h]; simp
  · rcases List.mem_cons.1 hk with h | hk
    · rw [h]; simp
    · obtain ⟨q, hq, hk⟩ := List.mem_flatMap.1 hk
      rcases List.mem_append.1 hq with hq | hq
      · exact .inl (List.mem_cons_of_mem _ (List.mem_cons_of_mem _ (List.mem_flatMap.2 ⟨q, hq, hk⟩)))
      · rw [List.mem_singleton.1 hq] at hk; exact .inr hk
end Go.Proofs.YteimpebfenpifaaGreatDoor
