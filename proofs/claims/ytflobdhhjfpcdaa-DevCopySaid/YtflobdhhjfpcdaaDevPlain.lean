/-
  Devices as plain data; blocks that several devices own beside one another.
-/
import Derived.Test.YtflobdhhjfpcdaaBox
import Derived.Test.YtflobdhhjfpcdaaRows2
import Derived.Lib.Hide
import Derived.Deep.Draws
namespace Go.Proofs.Ytflobdhhjfpcdaa
open Go.RowKit

/-- Blocks outside S are as they were (and blocks were made). -/
structure Chg (S : List Nat) (w w' : World) : Prop where
  os : w'.os = w.os
  tape : w'.tape = w.tape
  output : w'.output = w.output
  size : w.heap.size ≤ w'.heap.size
  block : ∀ k, k < w.heap.size → k ∉ S → w'.heap[k]? = w.heap[k]?
theorem Chg.refl (S : List Nat) (w : World) : Chg S w w := ⟨rfl, rfl, rfl, Nat.le_refl _, fun _ _ _ => rfl⟩
theorem Chg.trans {S : List Nat} {w w1 w2 : World} (h : Chg S w w1) (k : Chg S w1 w2) : Chg S w w2 :=
  ⟨k.os.trans h.os, k.tape.trans h.tape, k.output.trans h.output, Nat.le_trans h.size k.size, fun i hi hn => (k.block i (Nat.lt_of_lt_of_le hi h.size) hn).trans (h.block i hi hn)⟩
theorem Chg.mono {S S' : List Nat} {w w' : World} (h : Chg S w w') (hS : ∀ k ∈ S, k ∈ S') : Chg S' w w' := ⟨h.os, h.tape, h.output, h.size, fun k hk hn => h.block k hk (fun h => hn (hS k h))⟩
/-- A second change may also touch what the first one made. -/
theorem Chg.then {S S' : List Nat} {w w1 w2 : World} (h : Chg S w w1) (k : Chg S' w1 w2) (hS : ∀ i ∈ S', i ∈ S ∨ w.heap.size ≤ i) : Chg S w w2 :=
  ⟨k.os.trans h.os, k.tape.trans h.tape, k.output.trans h.output, Nat.le_trans h.size k.size, fun i hi hn =>
    (k.block i (Nat.lt_of_lt_of_le hi h.size) (fun hm => by rcases hS i hm with h1 | h1; exact hn h1; omega)).trans (h.block i hi hn)⟩
theorem Chg.of {S : List Nat} {w w' : World} {n : Nat} (h : Below n w w') (hn : w.heap.size ≤ n) : Chg S w w' := ⟨h.os, h.tape, h.output, h.size, fun k hk _ => h.block k (Nat.lt_of_lt_of_le hk hn)⟩
theorem Chg.only {b : Nat} {w w' : World} (h : Only b w w') : Chg [b] w w' := ⟨h.os, h.tape, h.output, h.size, fun k hk hn => h.block k hk (fun e => hn (by injection e with e; simp [e]))⟩
/-- What touches only blocks from n on leaves all below n. -/
theorem Chg.below {S : List Nat} {w w' : World} {n : Nat} (h : Chg S w w') (hn : n ≤ w.heap.size) (hS : ∀ k ∈ S, n ≤ k) : Below n w w' :=
  ⟨h.os, h.tape, h.output, h.size, fun k hk => h.block k (Nat.lt_of_lt_of_le hk hn) (fun hm => by have := hS k hm; omega)⟩

structure SideD where
  has : List ByteArray
  tells : List ByteArray
  lost : Bool
abbrev WrD := (Int × Int) × ByteArray
structure DevD where
  s0 : SideD
  s1 : SideD
  waits : List WrD
def devSize (d : DevD) (dev : Int) : Nat := if dev = 0 then d.s0.has.length else if dev = 1 then d.s1.has.length else 0
def devLost (d : DevD) (dev : Int) : Bool := if dev = 0 then d.s0.lost else if dev = 1 then d.s1.lost else false
/-- Is there such a sector? -/
def locOk (d : DevD) (l : Int × Int) : Prop := (l.1 = 0 ∨ l.1 = 1) ∧ 0 ≤ l.2 ∧ l.2 < (devSize d l.1 : Int)

/-- Row g holds the strings l. -/
def Strs (w : World) (g cap : Nat) (l : List ByteArray) : Prop := w.ownsRow 0 9 1 (.slice (some ⟨g, 0, none⟩) l.length cap) l.length (l.map Value.string)
theorem Strs.get {w : World} {g cap : Nat} {l : List ByteArray} (h : Strs w g cap l) (k : Nat) (x : ByteArray) (hx : l[k]? = some x) : w.cell? ⟨g, k, none⟩ = some (.string x) := by
  have hk : k < l.length := (List.getElem?_eq_some_iff.1 hx).1
  rw [World.ownsRow.cellAt h k (by omega), List.getElem?_map, hx]; rfl
theorem Strs.free {w : World} {g cap : Nat} {l : List ByteArray} (h : Strs w g cap l) (k : Nat) : w.frozen? ⟨g, k, none⟩ = false := by
  rcases h.2 with ⟨h', _⟩ | ⟨g', cap', cur, h', _, hg, _⟩
  · simp at h'
  · simp only [Value.slice.injEq, Option.some.injEq, Addr.mk.injEq, and_true, true_and] at h'
    obtain ⟨rfl, _⟩ := h'
    simp [World.frozen?, hg]
theorem Strs.set {w : World} {g cap : Nat} {l : List ByteArray} (h : Strs w g cap l) (k : Nat) (x : ByteArray) : Strs (w.setCell ⟨g, k, none⟩ (.string x)) g cap (l.set k x) := by
  have := (World.ownsRow.stored h k (Value.string x)).1
  unfold Strs
  rw [List.length_set, List.map_set]
  exact this
theorem Strs.lt {w : World} {g cap : Nat} {l : List ByteArray} (h : Strs w g cap l) : g < w.heap.size := ownsRow_lt h g rfl
theorem Strs.chg {S : List Nat} {w w' : World} {g cap : Nat} {l : List ByteArray} (h : Strs w g cap l) (hc : Chg S w w') (hg : g ∉ S) : Strs w' g cap l :=
  ownsRow_of h fun k hk hlt => hc.block k hlt (by simp [Value.ownBlock] at hk; subst hk; exact hg)

def WrV (x : WrD) : List Value := [.int .i64 x.1.1, .int .i64 x.1.2, .string x.2]
/-- Where a device lies. -/
structure DevP where
  b : Nat
  h0 : Nat
  t0 : Nat
  h1 : Nat
  t1 : Nat
  ch0 : Nat
  ct0 : Nat
  ch1 : Nat
  ct1 : Nat
  wv : Value
def DevP.fp (p : DevP) : List Nat := [p.b, p.h0, p.t0, p.h1, p.t1] ++ p.wv.ownBlock.toList

/-- Block p.b is devices d. -/
structure DevAt (w : World) (p : DevP) (d : DevD) : Prop where
  box : Box w p.b 60 #[.slice (some ⟨p.h0, 0, none⟩) d.s0.has.length p.ch0, .slice (some ⟨p.t0, 0, none⟩) d.s0.tells.length p.ct0, .bool d.s0.lost,
    .slice (some ⟨p.h1, 0, none⟩) d.s1.has.length p.ch1, .slice (some ⟨p.t1, 0, none⟩) d.s1.tells.length p.ct1, .bool d.s1.lost, p.wv]
  h0 : Strs w p.h0 p.ch0 d.s0.has
  t0 : Strs w p.t0 p.ct0 d.s0.tells
  h1 : Strs w p.h1 p.ch1 d.s1.has
  t1 : Strs w p.t1 p.ct1 d.s1.tells
  wt : w.ownsRow 0 62 3 p.wv d.waits.length (d.waits.flatMap WrV)
  nd : p.fp.Nodup
  l0 : d.s0.tells.length = d.s0.has.length
  l1 : d.s1.tells.length = d.s1.has.length
  n0 : 1 ≤ d.s0.has.length ∧ d.s0.has.length ≤ 512
  n1 : 1 ≤ d.s1.has.length ∧ d.s1.has.length ≤ 512
  wok : ∀ x ∈ d.waits, locOk d x.1
theorem DevAt.chg {S : List Nat} {w w' : World} {p : DevP} {d : DevD} (h : DevAt w p d) (hc : Chg S w w') (hd : ∀ k ∈ p.fp, k ∉ S) : DevAt w' p d :=
  ⟨h.box.of (hc.block p.b h.box.lt (hd _ (by simp [DevP.fp]))), h.h0.chg hc (hd _ (by simp [DevP.fp])), h.t0.chg hc (hd _ (by simp [DevP.fp])), h.h1.chg hc (hd _ (by simp [DevP.fp])), h.t1.chg hc (hd _ (by simp [DevP.fp])),
    ownsRow_of h.wt fun k hk hlt => hc.block k hlt (hd _ (by simp [DevP.fp, hk])), h.nd, h.l0, h.l1, h.n0, h.n1, h.wok⟩
theorem DevAt.drewN {w : World} {p : DevP} {d : DevD} (h : DevAt w p d) (n : Nat) : DevAt (w.drewN n) p d := ⟨h.box, h.h0, h.t0, h.h1, h.t1, h.wt, h.nd, h.l0, h.l1, h.n0, h.n1, h.wok⟩
theorem Chg.drewN {S : List Nat} {w w' : World} (h : Chg S w w') (n : Nat) : Chg S w (w'.drewN n) := ⟨h.os, h.tape, h.output, h.size, h.block⟩
theorem Chg.drew {S : List Nat} {w w' : World} (h : Chg S w w') : Chg S w w'.drew := ⟨h.os, h.tape, h.output, h.size, h.block⟩
theorem Chg.set {S : List Nat} {w w' : World} (h : Chg S w w') (b j : Nat) (v : Value) (hb : b ∈ S ∨ w.heap.size ≤ b) : Chg S w (w'.setCell ⟨b, j, none⟩ v) :=
  h.then (Chg.only (Only.set b j w' v)) (fun i hi => by rw [List.mem_singleton] at hi; rw [hi]; exact hb)
theorem Chg.alloc {S : List Nat} {w w' : World} (h : Chg S w w') (o : Obj) : Chg S w (w'.alloc o) := h.trans (Chg.of ((Below.refl _ _).alloc (Nat.le_refl _) o) (Nat.le_refl _))

/-- From p to p': the same head; what changed lies in p's blocks; p' has no others but new ones. -/
structure Mv (p p' : DevP) (w w' : World) : Prop where
  b : p'.b = p.b
  chg : Chg p.fp w w'
  fp : ∀ k ∈ p'.fp, k ∈ p.fp ∨ w.heap.size ≤ k
theorem Mv.refl (p : DevP) (w : World) : Mv p p w w := ⟨rfl, Chg.refl _ _, fun _ h => .inl h⟩
theorem Mv.trans {p p1 p2 : DevP} {w w1 w2 : World} (h : Mv p p1 w w1) (k : Mv p1 p2 w1 w2) : Mv p p2 w w2 :=
  ⟨k.b.trans h.b, h.chg.then k.chg h.fp, fun i hi => by
    rcases k.fp i hi with h1 | h1
    · exact h.fp i h1
    · exact .inr (Nat.le_trans h.chg.size h1)⟩
/-- Block p.b is devices d', and no other block than p's has changed. -/
def DevTo (p : DevP) (d' : DevD) (w w' : World) : Prop := ∃ p', DevAt w' p' d' ∧ Mv p p' w w'
theorem DevTo.mk {p p' : DevP} {d' : DevD} {w w' : World} (h : DevAt w' p' d') (k : Mv p p' w w') : DevTo p d' w w' := ⟨p', h, k⟩
end Go.Proofs.Ytflobdhhjfpcdaa
