/-
  Trees of files as plain data: things by their numbers, as the package keeps them; entries by their paths, as the document tells them. No program here.
-/
import Derived.Test.YteimpebfenpifaaGreatDoorMap
import Derived.Test.YteimpebfenpifaaGreatDoorMg13
import Derived.Lib.ItoaNum
import Derived.Test.YteimpebfenpifaaGreatDoorRepZ
import Derived.Test.YteimpebfenpifaaGreatDoorMg12
namespace Go.Proofs.YteimpebfenpifaaGreatDoor
open Go.RowKit

abbrev noB : ByteArray := ⟨#[]⟩
abbrev rootB : ByteArray := ⟨#[47]⟩
/-- A thing of the package's. -/
structure ThD where
  dir : Bool
  ents : List (ByteArray × Int)
  text : ByteArray
  links : Int
structure MoD where
  l : List (Int × ThD)
  last : Int
structure OpD where
  do_ : Int
  path : ByteArray
  dst : ByteArray
  off : Int
  len : Int
  data : ByteArray
structure AnsD where
  code : Int
  n : Int
  data : ByteArray
  names : List ByteArray
deriving DecidableEq
def noA (e : Int) : AnsD := ⟨e, 0, noB, []⟩

/-! ### by numbers -/
def setT (M : MoD) (n : Int) (t : ThD) : MoD := { M with l := M.l.map (fun x => if x.1 = n then (n, t) else x) }
def addT (M : MoD) (t : ThD) : MoD := ⟨M.l ++ [(M.last + 1, t)], M.last + 1⟩
def delT (M : MoD) (n : Int) : MoD := { M with l := dropL M.l n }
def dirOf (M : MoD) (n : Int) : Bool := match findL M.l n with | none => false | some t => t.dir
def entsOf (M : MoD) (n : Int) : List (ByteArray × Int) := match findL M.l n with | none => [] | some t => t.ents
def stepM (M : MoD) : Int → List ByteArray → Int × Int
  | n, [] => (n, 0)
  | n, x :: r => if dirOf M n = false then (0, 11) else match findL (entsOf M n) x with
    | none => (0, 8)
    | some k => stepM M k r
def leadM (M : MoD) (p : ByteArray) : Int × Int := if (splitD p).2 = 0 then stepM M 0 (splitD p).1 else (0, (splitD p).2)
def fileM (M : MoD) (p : ByteArray) : Int × Int := if (leadM M p).2 = 0 ∧ dirOf M (leadM M p).1 = true then (0, 10) else leadM M p
def dirM (M : MoD) (p : ByteArray) : Int × Int := if (leadM M p).2 = 0 ∧ dirOf M (leadM M p).1 = false then (0, 11) else leadM M p
/-- Where the entry of a path may stand: a directory, a name; or an error. -/
def freeM (M : MoD) (p : ByteArray) : Int × ByteArray × Int :=
  if p = rootB then (0, noB, 9) else if (parD p).e ≠ 0 then (0, noB, (parD p).e) else if (dirM M (parD p).p).2 ≠ 0 then (0, noB, (dirM M (parD p).p).2) else
  if (findL (entsOf M (dirM M (parD p).p).1) (parD p).n).isSome = true then (0, noB, 9) else ((dirM M (parD p).p).1, (parD p).n, 0)

/-- A number's digits. -/
def digitsB (n : Nat) : ByteArray := ⟨(Lib.decDigits n).toArray⟩

/-! ### by paths -/
structure Th where
  dir : Bool
  text : ByteArray
deriving DecidableEq
abbrev PathD := List ByteArray
structure GD where
  E : List (PathD × Nat)
  T : List Th
deriving DecidableEq
def atE (G : GD) (l : PathD) : Option Nat := if l = [] then some 0 else findL G.E l
def dirG (G : GD) (n : Nat) : Bool := match G.T[n]? with | none => false | some t => t.dir
def textG (G : GD) (n : Nat) : ByteArray := match G.T[n]? with | none => noB | some t => t.text
def linksG (G : GD) (n : Nat) : Nat := G.E.countP (fun x => x.2 == n)
def stepG (G : GD) : PathD → PathD → Nat × Int
  | pre, [] => ((atE G pre).getD 0, 0)
  | pre, x :: r => if dirG G ((atE G pre).getD 0) = false then (0, 11) else match atE G (pre ++ [x]) with
    | none => (0, 8)
    | some _ => stepG G (pre ++ [x]) r
def leadG (G : GD) (p : ByteArray) : Nat × Int := if (splitD p).2 = 0 then stepG G [] (splitD p).1 else (0, (splitD p).2)
def freeG (G : GD) (p : ByteArray) : Int :=
  if (splitD p).2 ≠ 0 then (splitD p).2 else if (splitD p).1 = [] then 9 else
  if (stepG G [] (splitD p).1.dropLast).2 ≠ 0 then (stepG G [] (splitD p).1.dropLast).2 else
  if dirG G (stepG G [] (splitD p).1.dropLast).1 = false then 11 else if (atE G (splitD p).1).isSome = true then 9 else 0
/-- The names below a path. -/
def kidG (l : PathD) (x : PathD × Nat) : Option ByteArray := if x.1 ≠ [] ∧ x.1.dropLast = l then some (x.1.getLastD noB) else none
def kidsG (G : GD) (l : PathD) : List ByteArray := G.E.filterMap (kidG l)
def insB (x : ByteArray) : List ByteArray → List ByteArray
  | [] => [x]
  | y :: r => if x.data.toList < y.data.toList then x :: y :: r else y :: insB x r
def sortB : List ByteArray → List ByteArray
  | [] => []
  | x :: r => insB x (sortB r)
def mvP (a b : PathD) (l : PathD) : PathD := if a <+: l then b ++ l.drop a.length else l
def addG (G : GD) (p : ByteArray) (dir : Bool) : GD := ⟨G.E ++ [((splitD p).1, G.T.length)], G.T ++ [⟨dir, noB⟩]⟩
def linkG (G : GD) (n : Nat) (p : ByteArray) : GD := { G with E := G.E ++ [((splitD p).1, n)] }
def dropG (G : GD) (p : ByteArray) : GD := { G with E := G.E.filter (fun x => !decide (x.1 = (splitD p).1)) }
def moveG (G : GD) (p q : ByteArray) : GD := { G with E := G.E.map (fun x => (mvP (splitD p).1 (splitD q).1 x.1, x.2)) }
def textSet (G : GD) (n : Nat) (s : ByteArray) : GD := { G with T := G.T.set n { (G.T[n]?.getD ⟨false, noB⟩) with text := s } }
/-- The first n bytes, or bytes 0 behind. -/
def sizedB (s : ByteArray) (n : Nat) : ByteArray := ⟨((pb s ++ List.replicate (n - s.size) 0).take n).toArray⟩
def writB (s : ByteArray) (off : Nat) (d : ByteArray) : ByteArray := if d.size = 0 then s else ⟨((pb s ++ List.replicate (off - s.size) 0).take off ++ pb d ++ (pb s).drop (off + d.size)).toArray⟩
def cutB (s : ByteArray) (off len : Nat) : ByteArray := ⟨(((pb s).drop off).take len).toArray⟩

def fileG (G : GD) (p : ByteArray) (k : Nat → AnsD × GD) : AnsD × GD :=
  if (leadG G p).2 ≠ 0 then (noA (leadG G p).2, G) else if dirG G (leadG G p).1 = true then (noA 10, G) else k (leadG G p).1
def makeG (G : GD) (p : ByteArray) (dir : Bool) : AnsD × GD := if freeG G p ≠ 0 then (noA (freeG G p), G) else (noA 0, addG G p dir)
/-- What is asked, answered: by the document. -/
def doG (G : GD) (o : OpD) : AnsD × GD :=
  if o.do_ = 0 then makeG G o.path false
  else if o.do_ = 1 then makeG G o.path true
  else if o.do_ = 2 then fileG G o.path fun n => if freeG G o.dst ≠ 0 then (noA (freeG G o.dst), G) else (noA 0, linkG G n o.dst)
  else if o.do_ = 3 then fileG G o.path fun _ => (noA 0, dropG G o.path)
  else if o.do_ = 4 then
    if o.path = rootB then (noA 1, G) else if (leadG G o.path).2 ≠ 0 then (noA (leadG G o.path).2, G) else if dirG G (leadG G o.path).1 = false then (noA 11, G)
    else if kidsG G (splitD o.path).1 ≠ [] then (noA 14, G) else (noA 0, dropG G o.path)
  else if o.do_ = 5 then
    if o.path = rootB then (noA 1, G) else if (leadG G o.path).2 ≠ 0 then (noA (leadG G o.path).2, G) else if witD o.path o.dst = true then (noA 1, G)
    else if freeG G o.dst ≠ 0 then (noA (freeG G o.dst), G) else (noA 0, moveG G o.path o.dst)
  else if o.do_ = 6 then fileG G o.path fun n => if o.off < 0 ∨ o.len < 0 then (noA 1, G) else (⟨0, ((cutB (textG G n) o.off.toNat o.len.toNat).size : Nat), cutB (textG G n) o.off.toNat o.len.toNat, []⟩, G)
  else if o.do_ = 7 then fileG G o.path fun n => if o.off < 0 then (noA 1, G) else if 16384 < o.off + (o.data.size : Int) then (noA 13, G)
    else (⟨0, (o.data.size : Nat), noB, []⟩, textSet G n (writB (textG G n) o.off.toNat o.data))
  else if o.do_ = 8 then fileG G o.path fun n => if o.len < 0 then (noA 1, G) else if 16384 < o.len then (noA 13, G) else (noA 0, textSet G n (sizedB (textG G n) o.len.toNat))
  else if o.do_ = 9 then
    if (leadG G o.path).2 ≠ 0 then (noA (leadG G o.path).2, G) else if dirG G (leadG G o.path).1 = true then (⟨0, ((kidsG G (splitD o.path).1).length : Nat), ⟨#[100, 105, 114]⟩, []⟩, G)
    else (⟨0, ((textG G (leadG G o.path).1).size : Nat), ⟨#[102, 105, 108, 101]⟩, [digitsB (linksG G (leadG G o.path).1)]⟩, G)
  else if o.do_ = 10 then
    if (leadG G o.path).2 ≠ 0 then (noA (leadG G o.path).2, G) else if dirG G (leadG G o.path).1 = false then (noA 11, G) else (⟨0, 0, noB, sortB (kidsG G (splitD o.path).1)⟩, G)
  else (noA 1, G)
end Go.Proofs.YteimpebfenpifaaGreatDoor
