/-
  Texts put together: Rows2, DevPlain, DevA, DevNew.
-/
import Derived.Test.YtopinlnjdgedeaaDoorMg0
import Derived.Deep.RegionLaw
import Derived.Maps.AppendAt
import Derived.Test.YtopinlnjdgedeaaDoorMg1
import Derived.Lib.Hide
import Derived.Deep.Draws
import Derived.Deep.OwnRows
namespace Go.Proofs.YtopinlnjdgedeaaDoor
open Go.RowKit

theorem flat_len {α : Type} (f : α → List Value) (n : Nat) (hn : ∀ x, (f x).length = n) : ∀ l : List α, (l.flatMap f).length = l.length * n
  | [] => by simp
  | x :: r => by rw [List.flatMap_cons, List.length_append, hn, flat_len f n hn r, List.length_cons, Nat.add_mul]; omega

theorem flat_get {α : Type} (f : α → List Value) (n : Nat) (hn : ∀ x, (f x).length = n) : ∀ (l : List α) (i : Nat) (x : α), l[i]? = some x → ∀ j, j < n → (l.flatMap f)[i * n + j]? = (f x)[j]?
  | [], i, x, h, _, _ => by simp at h
  | y :: r, 0, x, h, j, hj => by
    simp only [List.getElem?_cons_zero, Option.some.injEq] at h
    subst h
    rw [List.flatMap_cons, Nat.zero_mul, Nat.zero_add, List.getElem?_append_left (by rw [hn]; exact hj)]
  | y :: r, i + 1, x, h, j, hj => by
    simp only [List.getElem?_cons_succ] at h
    have h1 := flat_get f n hn r i x h j hj
    rw [List.flatMap_cons, List.getElem?_append_right (by rw [hn, Nat.add_mul]; omega), hn, ← h1]
    congr 1
    rw [Nat.add_mul]; omega

/-- Whatever holds of the row's block holds of the row. -/
theorem ownsRow_of {w w' : World} {base : Nat} {e : TypeId} {sz : Nat} {v : Value} {n : Nat} {xs : List Value} (h : w.ownsRow base e sz v n xs) (hb : ∀ k, v.ownBlock = some k → k < w.heap.size → w'.heap[k]? = w.heap[k]?) : w'.ownsRow base e sz v n xs := by
  refine ⟨h.1, ?_⟩
  rcases h.2 with ⟨rfl, h0⟩ | ⟨g, cap, cur, rfl, hg, hh, h3⟩
  · exact .inl ⟨rfl, h0⟩
  · exact .inr ⟨g, cap, cur, rfl, hg, by rw [hb g rfl (lt_of_block hh)]; exact hh, h3⟩
theorem ownsRow_lt {w : World} {base : Nat} {e : TypeId} {sz : Nat} {v : Value} {n : Nat} {xs : List Value} (h : w.ownsRow base e sz v n xs) (k : Nat) (hk : v.ownBlock = some k) : k < w.heap.size := by
  rcases h.2 with ⟨rfl, h0⟩ | ⟨g, cap, cur, rfl, hg, hh, h3⟩
  · cases hk
  · simp [Value.ownBlock] at hk; subst hk; exact lt_of_block hh
end Go.Proofs.YtopinlnjdgedeaaDoor

namespace Go.Proofs.YtopinlnjdgedeaaDoor
open Go.RowKit

/-- Blocks outside S are as they were (and blocks were made). -/
structure Chg (S : List Nat) (w w' : World) : Prop where
  os : w'.os = w.os
  tape : w'.tape = w.tape
  output : w'.output = w.output
  size : w.heap.size ≤ w'.heap.size
  block : ∀ k, k < w.heap.size → k ∉ S → w'.heap[k]? = w.heap[k]?
theorem Chg.refl (S : List Nat) (w : World) : Chg S w w := ⟨rfl, rfl, rfl, Nat.le_refl _, fun _ _ _ => rfl⟩
theorem Chg.trans {S : List Nat} {w w1 w2 : World} (h : Chg S w w1) (k : Chg S w1 w2) : Chg S w w2 :=
  ⟨k.os.trans h.os, k.tape.trans h.tape, k.output.trans h.output, Nat.le_trans h.size k.size, fun i hi hn => (k.block i (Nat.lt_of_lt_of_le hi h.size) hn).trans (h.block i hi hn)⟩
theorem Chg.mono {S S' : List Nat} {w w' : World} (h : Chg S w w') (hS : ∀ k ∈ S, k ∈ S') : Chg S' w w' := ⟨h.os, h.tape, h.output, h.size, fun k hk hn => h.block k hk (fun h => hn (hS k h))⟩
/-- A second change may also touch what the first one made. -/
theorem Chg.then {S S' : List Nat} {w w1 w2 : World} (h : Chg S w w1) (k : Chg S' w1 w2) (hS : ∀ i ∈ S', i ∈ S ∨ w.heap.size ≤ i) : Chg S w w2 :=
  ⟨k.os.trans h.os, k.tape.trans h.tape, k.output.trans h.output, Nat.le_trans h.size k.size, fun i hi hn =>
    (k.block i (Nat.lt_of_lt_of_le hi h.size) (fun hm => by rcases hS i hm with h1 | h1; exact hn h1; omega)).trans (h.block i hi hn)⟩
theorem Chg.of {S : List Nat} {w w' : World} {n : Nat} (h : Below n w w') (hn : w.heap.size ≤ n) : Chg S w w' := ⟨h.os, h.tape, h.output, h.size, fun k hk _ => h.block k (Nat.lt_of_lt_of_le hk hn)⟩
theorem Chg.only {b : Nat} {w w' : World} (h : Only b w w') : Chg [b] w w' := ⟨h.os, h.tape, h.output, h.size, fun k hk hn => h.block k hk (fun e => hn (by injection e with e; simp [e]))⟩
/-- What touches only blocks from n on leaves all below n. -/
theorem Chg.below {S : List Nat} {w w' : World} {n : Nat} (h : Chg S w w') (hn : n ≤ w.heap.size) (hS : ∀ k ∈ S, n ≤ k) : Below n w w' :=
  ⟨h.os, h.tape, h.output, h.size, fun k hk => h.block k (Nat.lt_of_lt_of_le hk hn) (fun hm => by have := hS k hm; omega)⟩

structure SideD where
  has : List ByteArray
  tells : List ByteArray
  lost : Bool
abbrev WrD := (Int × Int) × ByteArray
structure DevD where
  s0 : SideD
  s1 : SideD
  waits : List WrD
def devSize (d : DevD) (dev : Int) : Nat := if dev = 0 then d.s0.has.length else if dev = 1 then d.s1.has.length else 0
def devLost (d : DevD) (dev : Int) : Bool := if dev = 0 then d.s0.lost else if dev = 1 then d.s1.lost else false
/-- Is there such a sector? -/
def locOk (d : DevD) (l : Int × Int) : Prop := (l.1 = 0 ∨ l.1 = 1) ∧ 0 ≤ l.2 ∧ l.2 < (devSize d l.1 : Int)

/-- Row g holds the strings l. -/
def Strs (w : World) (g cap : Nat) (l : List ByteArray) : Prop := w.ownsRow 0 9 1 (.slice (some ⟨g, 0, none⟩) l.length cap) l.length (l.map Value.string)
theorem Strs.get {w : World} {g cap : Nat} {l : List ByteArray} (h : Strs w g cap l) (k : Nat) (x : ByteArray) (hx : l[k]? = some x) : w.cell? ⟨g, k, none⟩ = some (.string x) := by
  have hk : k < l.length := (List.getElem?_eq_some_iff.1 hx).1
  rw [World.ownsRow.cellAt h k (by omega), List.getElem?_map, hx]; rfl
theorem Strs.free {w : World} {g cap : Nat} {l : List ByteArray} (h : Strs w g cap l) (k : Nat) : w.frozen? ⟨g, k, none⟩ = false := by
  rcases h.2 with ⟨h', _⟩ | ⟨g', cap', cur, h', _, hg, _⟩
  · simp at h'
  · simp only [Value.slice.injEq, Option.some.injEq, Addr.mk.injEq, and_true, true_and] at h'
    obtain ⟨rfl, _⟩ := h'
    simp [World.frozen?, hg]
theorem Strs.set {w : World} {g cap : Nat} {l : List ByteArray} (h : Strs w g cap l) (k : Nat) (x : ByteArray) : Strs (w.setCell ⟨g, k, none⟩ (.string x)) g cap (l.set k x) := by
  have := (World.ownsRow.stored h k (Value.string x)).1
  unfold Strs
  rw [List.length_set, List.map_set]
  exact this
theorem Strs.lt {w : World} {g cap : Nat} {l : List ByteArray} (h : Strs w g cap l) : g < w.heap.size := ownsRow_lt h g rfl
theorem Strs.chg {S : List Nat} {w w' : World} {g cap : Nat} {l : List ByteArray} (h : Strs w g cap l) (hc : Chg S w w') (hg : g ∉ S) : Strs w' g cap l :=
  ownsRow_of h fun k hk hlt => hc.block k hlt (by simp [Value.ownBlock] at hk; subst hk; exact hg)

def WrV (x : WrD) : List Value := [.int .i64 x.1.1, .int .i64 x.1.2, .string x.2]
/-- Where a device lies. -/
structure DevP where
  b : Nat
  h0 : Nat
  t0 : Nat
  h1 : Nat
  t1 : Nat
  ch0 : Nat
  ct0 : Nat
  ch1 : Nat
  ct1 : Nat
  wv : Value
def DevP.fp (p : DevP) : List Nat := [p.b, p.h0, p.t0, p.h1, p.t1] ++ p.wv.ownBlock.toList

/-- Block p.b is devices d. -/
structure DevAt (w : World) (p : DevP) (d : DevD) : Prop where
  box : Box w p.b 59 #[.slice (some ⟨p.h0, 0, none⟩) d.s0.has.length p.ch0, .slice (some ⟨p.t0, 0, none⟩) d.s0.tells.length p.ct0, .bool d.s0.lost,
    .slice (some ⟨p.h1, 0, none⟩) d.s1.has.length p.ch1, .slice (some ⟨p.t1, 0, none⟩) d.s1.tells.length p.ct1, .bool d.s1.lost, p.wv]
  h0 : Strs w p.h0 p.ch0 d.s0.has
  t0 : Strs w p.t0 p.ct0 d.s0.tells
  h1 : Strs w p.h1 p.ch1 d.s1.has
  t1 : Strs w p.t1 p.ct1 d.s1.tells
  wt : w.ownsRow 0 86 3 p.wv d.waits.length (d.waits.flatMap WrV)
  nd : p.fp.Nodup
  l0 : d.s0.tells.length = d.s0.has.length
  l1 : d.s1.tells.length = d.s1.has.length
  n0 : 1 ≤ d.s0.has.length ∧ d.s0.has.length ≤ 512
  n1 : 1 ≤ d.s1.has.length ∧ d.s1.has.length ≤ 512
  wok : ∀ x ∈ d.waits, locOk d x.1
theorem DevAt.chg {S : List Nat} {w w' : World} {p : DevP} {d : DevD} (h : DevAt w p d) (hc : Chg S w w') (hd : ∀ k ∈ p.fp, k ∉ S) : DevAt w' p d :=
  ⟨h.box.of (hc.block p.b h.box.lt (hd _ (by simp [DevP.fp]))), h.h0.chg hc (hd _ (by simp [DevP.fp])), h.t0.chg hc (hd _ (by simp [DevP.fp])), h.h1.chg hc (hd _ (by simp [DevP.fp])), h.t1.chg hc (hd _ (by simp [DevP.fp])),
    ownsRow_of h.wt fun k hk hlt => hc.block k hlt (hd _ (by simp [DevP.fp, hk])), h.nd, h.l0, h.l1, h.n0, h.n1, h.wok⟩
theorem DevAt.drewN {w : World} {p : DevP} {d : DevD} (h : DevAt w p d) (n : Nat) : DevAt (w.drewN n) p d := ⟨h.box, h.h0, h.t0, h.h1, h.t1, h.wt, h.nd, h.l0, h.l1, h.n0, h.n1, h.wok⟩
theorem Chg.drewN {S : List Nat} {w w' : World} (h : Chg S w w') (n : Nat) : Chg S w (w'.drewN n) := ⟨h.os, h.tape, h.output, h.size, h.block⟩
theorem Chg.drew {S : List Nat} {w w' : World} (h : Chg S w w') : Chg S w w'.drew := ⟨h.os, h.tape, h.output, h.size, h.block⟩
theorem Chg.set {S : List Nat} {w w' : World} (h : Chg S w w') (b j : Nat) (v : Value) (hb : b ∈ S ∨ w.heap.size ≤ b) : Chg S w (w'.setCell ⟨b, j, none⟩ v) :=
  h.then (Chg.only (Only.set b j w' v)) (fun i hi => by rw [List.mem_singleton] at hi; rw [hi]; exact hb)
theorem Chg.alloc {S : List Nat} {w w' : World} (h : Chg S w w') (o : Obj) : Chg S w (w'.alloc o) := h.trans (Chg.of ((Below.refl _ _).alloc (Nat.le_refl _) o) (Nat.le_refl _))

/-- From p to p': the same head; what changed lies in p's blocks; p' has no others but new ones. -/
structure Mv (p p' : DevP) (w w' : World) : Prop where
  b : p'.b = p.b
  chg : Chg p.fp w w'
  fp : ∀ k ∈ p'.fp, k ∈ p.fp ∨ w.heap.size ≤ k
theorem Mv.refl (p : DevP) (w : World) : Mv p p w w := ⟨rfl, Chg.refl _ _, fun _ h => .inl h⟩
theorem Mv.trans {p p1 p2 : DevP} {w w1 w2 : World} (h : Mv p p1 w w1) (k : Mv p1 p2 w1 w2) : Mv p p2 w w2 :=
  ⟨k.b.trans h.b, h.chg.then k.chg h.fp, fun i hi => by
    rcases k.fp i hi with h1 | h1
    · exact h.fp i h1
    · exact .inr (Nat.le_trans h.chg.size h1)⟩
/-- Block p.b is devices d', and no other block than p's has changed. -/
def DevTo (p : DevP) (d' : DevD) (w w' : World) : Prop := ∃ p', DevAt w' p' d' ∧ Mv p p' w w'
theorem DevTo.mk {p p' : DevP} {d' : DevD} {w w' : World} (h : DevAt w' p' d') (k : Mv p p' w w') : DevTo p d' w w' := ⟨p', h, k⟩
end Go.Proofs.YtopinlnjdgedeaaDoor

namespace Go.Proofs.YtopinlnjdgedeaaDoor
open Go.RowKit

theorem mayBe_any (n : Int) (w : World) : Calls Tryd.prog 20 #[.int .i64 n] w fun e w' => e = .returned (.bool (decide (1 ≤ n ∧ n ≤ 512))) ∧ w = w' := by
  by_cases h : 1 ≤ n
  · have e : decide (1 ≤ n ∧ n ≤ 512) = decide (n ≤ 512) := by simp [h]
    rw [e]
    clear e
    go_enter Tryd.func20, Tryd.ntmps20
    go_wp2
    go_ret
    exact ⟨rfl, rfl⟩
  · have e : decide (1 ≤ n ∧ n ≤ 512) = false := by simp; omega
    rw [e]
    clear e
    go_enter Tryd.func20, Tryd.ntmps20
    go_wp2
    go_ret
    exact ⟨rfl, rfl⟩

theorem dsize_nil (dev : Int) (w : World) : Calls Tryd.prog 17 #[.pointer none, .int .i64 dev] w fun e w' => e = .returned (.int .i64 0) ∧ w = w' := by
  go_enter Tryd.func17, Tryd.ntmps17
  go_wp2
  go_ret
  exact ⟨rfl, rfl⟩

set_option maxRecDepth 100000 in
theorem dsize_any (p : DevP) (d : DevD) (dev : Int) (w : World) (h : DevAt w p d) : Calls Tryd.prog 17 #[.pointer (some ⟨p.b, 0, none⟩), .int .i64 dev] w fun e w' => e = .returned (.int .i64 (devSize d dev : Nat)) ∧ w = w' := by
  have c0 : w.cell? ⟨p.b, 0, none⟩ = some (.slice (some ⟨p.h0, 0, none⟩) d.s0.has.length p.ch0) := h.box.cell 0 _ rfl
  have c3 : w.cell? ⟨p.b, 3, none⟩ = some (.slice (some ⟨p.h1, 0, none⟩) d.s1.has.length p.ch1) := h.box.cell 3 _ rfl
  clear h
  by_cases h0 : dev < 0
  · rw [show devSize d dev = 0 from by unfold devSize; rw [if_neg (by omega), if_neg (by omega)]]
    go_enter Tryd.func17, Tryd.ntmps17
    go_wp2
    go_ret
    exact ⟨rfl, rfl⟩
  · by_cases h2 : 2 ≤ dev
    · rw [show devSize d dev = 0 from by unfold devSize; rw [if_neg (by omega), if_neg (by omega)]]
      go_enter Tryd.func17, Tryd.ntmps17
      go_wp2
      go_ret
      exact ⟨rfl, rfl⟩
    · have hd : dev = 0 ∨ dev = 1 := by omega
      clear h0 h2
      rcases hd with rfl | rfl
      · rw [show devSize d 0 = d.s0.has.length from rfl]
        go_enter Tryd.func17, Tryd.ntmps17
        go_wp2
        go_ret
        exact ⟨rfl, rfl⟩
      · rw [show devSize d 1 = d.s1.has.length from rfl]
        go_enter Tryd.func17, Tryd.ntmps17
        go_wp2
        go_ret
        exact ⟨rfl, rfl⟩

end Go.Proofs.YtopinlnjdgedeaaDoor

namespace Go.Proofs.YtopinlnjdgedeaaDoor
open Go.RowKit

def emp : ByteArray := ⟨#[]⟩
theorem infoStr : (Tryd.prog.info? 9).map (fun i => (i.zero, i.size, i.bytes)) = some (some (.string ⟨#[]⟩), 1, 16) := by kernel_rfl
theorem Strs.made (w : World) (n : Nat) (hn : n ≤ 1000) : Strs (w.alloc (.cells (madeCells #[Value.string ⟨#[]⟩] n) 9)) w.heap.size n (List.replicate n emp) := by
  refine ⟨by simp, .inr ⟨w.heap.size, n, _, by simp, Nat.zero_le _, (MapKept.heap_alloc w _).1, by simp, by unfold maxLen; omega, by simp [size_madeCells], ?_⟩⟩
  apply List.ext_getElem?
  intro i
  by_cases hi : i < n
  · simp [madeCells, hi, Nat.mod_one, emp]
  · simp [madeCells, hi]

theorem sizeSide : (Tryd.prog.info? 54).map (·.size) = some 3 := by kernel_rfl
set_option maxRecDepth 100000 in
theorem newSide_any (n : Nat) (hn : n ≤ 1000) (w : World) : Calls Tryd.prog 21 #[.int .i64 n] w fun e w' => ∃ h t, e = .returned (.agg #[.slice (some ⟨h, 0, none⟩) n n, .slice (some ⟨t, 0, none⟩) n n, .bool false]) ∧
    Strs w' h n (List.replicate n emp) ∧ Strs w' t n (List.replicate n emp) ∧ h ≠ t ∧ w.heap.size ≤ h ∧ w.heap.size ≤ t ∧ Below w.heap.size w w' := by
  have hmk := fun W => run_make_row' (P := Tryd.prog) 52 9 (.string ⟨#[]⟩) 16 Tryd.underlying52 infoStr rfl .i64 .i64 n (by omega) (by omega) W
  go_enter Tryd.func21, Tryd.ntmps21
  go_wp2_with fail
  go_region
  all_goals
    go_wp2
    generalize hm : Obj.cells (madeCells #[Value.string ⟨#[]⟩] n) 9 = m
  · refine bodyPost_ret (results_cell_row rfl _ _ w.heap.size 54 _ (0, 0) _ rfl (((Box.new w 54 _).alloc m).alloc m) Tryd.underlying54 rfl sizeSide) rfl ?_
    have s1 := Strs.made (w.alloc (.cells #[.slice (some ⟨w.heap.size + 1, 0, none⟩) n n, .slice (some ⟨w.heap.size + 1 + 1, 0, none⟩) n n, .bool false] 54)) n hn
    have s2 := Strs.made ((w.alloc (.cells #[.slice (some ⟨w.heap.size + 1, 0, none⟩) n n, .slice (some ⟨w.heap.size + 1 + 1, 0, none⟩) n n, .bool false] 54)).alloc m) n hn
    rw [hm] at s1 s2
    simp only [size_alloc] at s1 s2
    exact ⟨w.heap.size + 1, w.heap.size + 1 + 1, rfl, World.ownsRow.alloc s1 m, s2, by omega, by omega, by omega, ((((Below.refl _ _).alloc (Nat.le_refl _) _).alloc (by rw [size_alloc]; omega) m).alloc (by rw [size_alloc, size_alloc]; omega) m).drew⟩
  · refine bodyPost_ret (results_cell_row rfl _ _ w.heap.size 54 _ (0, 0) _ rfl (((Box.new w 54 _).alloc m).alloc m) Tryd.underlying54 rfl sizeSide) rfl ?_
    have s1 := Strs.made (w.alloc (.cells #[.slice (some ⟨w.heap.size + 1 + 1, 0, none⟩) n n, .slice (some ⟨w.heap.size + 1, 0, none⟩) n n, .bool false] 54)) n hn
    have s2 := Strs.made ((w.alloc (.cells #[.slice (some ⟨w.heap.size + 1 + 1, 0, none⟩) n n, .slice (some ⟨w.heap.size + 1, 0, none⟩) n n, .bool false] 54)).alloc m) n hn
    rw [hm] at s1 s2
    simp only [size_alloc] at s1 s2
    exact ⟨w.heap.size + 1 + 1, w.heap.size + 1, rfl, s2, World.ownsRow.alloc s1 m, by omega, by omega, by omega, ((((Below.refl _ _).alloc (Nat.le_refl _) _).alloc (by rw [size_alloc]; omega) m).alloc (by rw [size_alloc, size_alloc]; omega) m).drew⟩

def newS (n : Nat) : SideD := ⟨List.replicate n emp, List.replicate n emp, false⟩
def newD (m n : Nat) : DevD := ⟨newS m, newS n, []⟩

theorem dnew_bad (a b : Int) (w : World) (h : ¬ ((1 ≤ a ∧ a ≤ 512) ∧ (1 ≤ b ∧ b ≤ 512))) : Calls Tryd.prog 9 #[.int .i64 a, .int .i64 b] w fun e w' => e = .returned (.pointer none) ∧ w = w' := by
  by_cases ha : 1 ≤ a ∧ a ≤ 512
  · have e1 := Lib.hid (decide_eq_true ha)
    have e2 := Lib.hid (show decide (1 ≤ b ∧ b ≤ 512) = false from decide_eq_false (fun hb => h ⟨ha, hb⟩))
    clear h ha
    go_enter Tryd.func9, Tryd.ntmps9
    go_wp2_with fail
    refine (mayBe_any a _).mono ?_
    rintro e w' ⟨rfl, rfl⟩
    rw [e1.out]
    go_wp2_with fail
    refine (mayBe_any b _).mono ?_
    rintro e w' ⟨rfl, rfl⟩
    rw [e2.out]
    go_wp2
    go_ret
    exact ⟨rfl, rfl⟩
  · have e1 := Lib.hid (decide_eq_false ha)
    clear h ha
    go_enter Tryd.func9, Tryd.ntmps9
    go_wp2_with fail
    refine (mayBe_any a _).mono ?_
    rintro e w' ⟨rfl, rfl⟩
    rw [e1.out]
    go_wp2
    go_ret
    exact ⟨rfl, rfl⟩

/-- New devices. -/
def NewDev (w : World) (m n : Nat) (e : Ending) (w' : World) : Prop := ∃ p, e = .returned (.pointer (some ⟨p.b, 0, none⟩)) ∧ DevAt w' p (newD m n) ∧ (∀ k ∈ p.fp, w.heap.size ≤ k) ∧ Below w.heap.size w w'

set_option maxRecDepth 100000 in
theorem dnew_ok (m n : Nat) (w : World) (hm : 1 ≤ m ∧ m ≤ 512) (hn : 1 ≤ n ∧ n ≤ 512) : Calls Tryd.prog 9 #[.int .i64 m, .int .i64 n] w (NewDev w m n) := by
  have e1 := Lib.hid (show decide (1 ≤ (m : Int) ∧ (m : Int) ≤ 512) = true from decide_eq_true (by omega))
  have e2 := Lib.hid (show decide (1 ≤ (n : Int) ∧ (n : Int) ≤ 512) = true from decide_eq_true (by omega))
  go_enter Tryd.func9, Tryd.ntmps9
  go_wp2_with fail
  refine (mayBe_any m _).mono ?_
  rintro e w' ⟨rfl, rfl⟩
  rw [e1.out]
  go_wp2_with fail
  refine (mayBe_any n _).mono ?_
  rintro e w' ⟨rfl, rfl⟩
  rw [e2.out]
  go_wp2_with fail
  refine (newSide_any m (by omega) _).mono ?_
  rintro e w1 ⟨h0, t0, rfl, sh0, st0, hne0, lh0, lt0, hb1⟩
  have S1 := Lib.hid (And.intro sh0 st0)
  have B1 := Lib.hid hb1
  clear sh0 st0 hb1
  go_wp2_with fail
  refine (newSide_any n (by omega) _).mono ?_
  rintro e w2 ⟨h1, t1, rfl, sh1, st1, hne1, lh1, lt1, hb2⟩
  have l1 := S1.out.1.lt
  have l2 := S1.out.2.lt
  have S2 := Lib.hid (And.intro sh1 st1)
  have l3 := sh1.lt
  have l4 := st1.lt
  have s0 := hb2.size
  have s1 := B1.out.size
  have B2 := Lib.hid hb2
  clear sh1 st1 hb2
  go_wp2
  go_ret
  have C1 : Chg [] w1 w2 := Chg.of B2.out (Nat.le_refl _)
  have nin : ∀ k : Nat, k ∉ ([] : List Nat) := fun _ h => by cases h
  have C2 : ∀ o, Chg [] w2 (w2.alloc o) := fun o => Chg.of ((Below.refl _ _).alloc (Nat.le_refl _) o) (Nat.le_refl _)
  refine ⟨⟨w2.heap.size, h0, t0, h1, t1, m, m, n, n, .slice none 0 0⟩, rfl, ⟨?_, (S1.out.1.chg C1 (nin _)).chg (C2 _) (nin _), (S1.out.2.chg C1 (nin _)).chg (C2 _) (nin _), S2.out.1.chg (C2 _) (nin _), S2.out.2.chg (C2 _) (nin _), World.ownsRow_nil _ _ _ _, ?_, rfl, rfl, ?_, ?_, ?_⟩, ?_, ?_⟩
  · have := Box.new w2 59 #[.slice (some ⟨h0, 0, none⟩) m m, .slice (some ⟨t0, 0, none⟩) m m, .bool false, .slice (some ⟨h1, 0, none⟩) n n, .slice (some ⟨t1, 0, none⟩) n n, .bool false, .slice none 0 0]
    simpa [newD, newS] using this
  · simp only [DevP.fp, Value.ownBlock, Option.toList_none, List.append_nil, List.nodup_cons, List.mem_cons, List.not_mem_nil, not_or, or_false, not_false_eq_true, List.nodup_nil, and_true]
    omega
  · simpa [newD, newS] using hm
  · simpa [newD, newS] using hn
  · intro x hx; cases hx
  · intro k hk
    simp only [DevP.fp, Value.ownBlock, Option.toList_none, List.append_nil, List.mem_cons, List.not_mem_nil, or_false] at hk
    omega
  · exact (B1.out.trans (B2.out.mono B1.out.size)).trans ((Below.refl _ _).alloc (by omega) _)
end Go.Proofs.YtopinlnjdgedeaaDoor
