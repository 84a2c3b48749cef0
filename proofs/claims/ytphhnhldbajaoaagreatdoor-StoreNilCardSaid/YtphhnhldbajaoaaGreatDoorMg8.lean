/-
  Texts put together: DevPlain, DevA, DevNew, DevCheck, DevRead, DevOps.
-/
import Derived.Test.YtphhnhldbajaoaaGreatDoorMg0
import Derived.Lib.Hide
import Derived.Deep.Draws
import Derived.Deep.OwnRows
import Derived.Deep.QuietTactic
import Derived.Deep.RegionLaw
namespace Go.Proofs.YtphhnhldbajaoaaGreatDoor
open Go.RowKit

structure SideD where
  has : List ByteArray
  tells : List ByteArray
  lost : Bool
abbrev WrD := (Int × Int) × ByteArray
structure DevD where
  s0 : SideD
  s1 : SideD
  waits : List WrD
def devSize (d : DevD) (dev : Int) : Nat := if dev = 0 then d.s0.has.length else if dev = 1 then d.s1.has.length else 0
def devLost (d : DevD) (dev : Int) : Bool := if dev = 0 then d.s0.lost else if dev = 1 then d.s1.lost else false
/-- Is there such a sector? -/
def locOk (d : DevD) (l : Int × Int) : Prop := (l.1 = 0 ∨ l.1 = 1) ∧ 0 ≤ l.2 ∧ l.2 < (devSize d l.1 : Int)

/-- Row g holds the strings l. -/
def Strs (w : World) (g cap : Nat) (l : List ByteArray) : Prop := w.ownsRow 0 9 1 (.slice (some ⟨g, 0, none⟩) l.length cap) l.length (l.map Value.string)
theorem Strs.get {w : World} {g cap : Nat} {l : List ByteArray} (h : Strs w g cap l) (k : Nat) (x : ByteArray) (hx : l[k]? = some x) : w.cell? ⟨g, k, none⟩ = some (.string x) := by
  have hk : k < l.length := (List.getElem?_eq_some_iff.1 hx).1
  rw [World.ownsRow.cellAt h k (by omega), List.getElem?_map, hx]; rfl
theorem Strs.free {w : World} {g cap : Nat} {l : List ByteArray} (h : Strs w g cap l) (k : Nat) : w.frozen? ⟨g, k, none⟩ = false := by
  rcases h.2 with ⟨h', _⟩ | ⟨g', cap', cur, h', _, hg, _⟩
  · simp at h'
  · simp only [Value.slice.injEq, Option.some.injEq, Addr.mk.injEq, and_true, true_and] at h'
    obtain ⟨rfl, _⟩ := h'
    simp [World.frozen?, hg]
theorem Strs.set {w : World} {g cap : Nat} {l : List ByteArray} (h : Strs w g cap l) (k : Nat) (x : ByteArray) : Strs (w.setCell ⟨g, k, none⟩ (.string x)) g cap (l.set k x) := by
  have := (World.ownsRow.stored h k (Value.string x)).1
  unfold Strs
  rw [List.length_set, List.map_set]
  exact this
theorem Strs.lt {w : World} {g cap : Nat} {l : List ByteArray} (h : Strs w g cap l) : g < w.heap.size := ownsRow_lt h g rfl
theorem Strs.chg {S : List Nat} {w w' : World} {g cap : Nat} {l : List ByteArray} (h : Strs w g cap l) (hc : Chg S w w') (hg : g ∉ S) : Strs w' g cap l :=
  ownsRow_of h fun k hk hlt => hc.block k hlt (by simp [Value.ownBlock] at hk; subst hk; exact hg)

def WrV (x : WrD) : List Value := [.int .i64 x.1.1, .int .i64 x.1.2, .string x.2]
/-- Where a device lies. -/
structure DevP where
  b : Nat
  h0 : Nat
  t0 : Nat
  h1 : Nat
  t1 : Nat
  ch0 : Nat
  ct0 : Nat
  ch1 : Nat
  ct1 : Nat
  wv : Value
def DevP.fp (p : DevP) : List Nat := [p.b, p.h0, p.t0, p.h1, p.t1] ++ p.wv.ownBlock.toList

/-- Block p.b is devices d. -/
structure DevAt (w : World) (p : DevP) (d : DevD) : Prop where
  box : Box w p.b 106 #[.slice (some ⟨p.h0, 0, none⟩) d.s0.has.length p.ch0, .slice (some ⟨p.t0, 0, none⟩) d.s0.tells.length p.ct0, .bool d.s0.lost,
    .slice (some ⟨p.h1, 0, none⟩) d.s1.has.length p.ch1, .slice (some ⟨p.t1, 0, none⟩) d.s1.tells.length p.ct1, .bool d.s1.lost, p.wv]
  h0 : Strs w p.h0 p.ch0 d.s0.has
  t0 : Strs w p.t0 p.ct0 d.s0.tells
  h1 : Strs w p.h1 p.ch1 d.s1.has
  t1 : Strs w p.t1 p.ct1 d.s1.tells
  wt : w.ownsRow 0 141 3 p.wv d.waits.length (d.waits.flatMap WrV)
  nd : p.fp.Nodup
  l0 : d.s0.tells.length = d.s0.has.length
  l1 : d.s1.tells.length = d.s1.has.length
  n0 : 1 ≤ d.s0.has.length ∧ d.s0.has.length ≤ 512
  n1 : 1 ≤ d.s1.has.length ∧ d.s1.has.length ≤ 512
  wok : ∀ x ∈ d.waits, locOk d x.1
theorem DevAt.chg {S : List Nat} {w w' : World} {p : DevP} {d : DevD} (h : DevAt w p d) (hc : Chg S w w') (hd : ∀ k ∈ p.fp, k ∉ S) : DevAt w' p d :=
  ⟨h.box.of (hc.block p.b h.box.lt (hd _ (by simp [DevP.fp]))), h.h0.chg hc (hd _ (by simp [DevP.fp])), h.t0.chg hc (hd _ (by simp [DevP.fp])), h.h1.chg hc (hd _ (by simp [DevP.fp])), h.t1.chg hc (hd _ (by simp [DevP.fp])),
    ownsRow_of h.wt fun k hk hlt => hc.block k hlt (hd _ (by simp [DevP.fp, hk])), h.nd, h.l0, h.l1, h.n0, h.n1, h.wok⟩
theorem DevAt.drewN {w : World} {p : DevP} {d : DevD} (h : DevAt w p d) (n : Nat) : DevAt (w.drewN n) p d := ⟨h.box, h.h0, h.t0, h.h1, h.t1, h.wt, h.nd, h.l0, h.l1, h.n0, h.n1, h.wok⟩
/-- From p to p': the same head; what changed lies in p's blocks; p' has no others but new ones. -/
structure Mv (p p' : DevP) (w w' : World) : Prop where
  b : p'.b = p.b
  chg : Chg p.fp w w'
  fp : ∀ k ∈ p'.fp, k ∈ p.fp ∨ w.heap.size ≤ k
theorem Mv.refl (p : DevP) (w : World) : Mv p p w w := ⟨rfl, Chg.refl _ _, fun _ h => .inl h⟩
theorem Mv.trans {p p1 p2 : DevP} {w w1 w2 : World} (h : Mv p p1 w w1) (k : Mv p1 p2 w1 w2) : Mv p p2 w w2 :=
  ⟨k.b.trans h.b, h.chg.then k.chg h.fp, fun i hi => by
    rcases k.fp i hi with h1 | h1
    · exact h.fp i h1
    · exact .inr (Nat.le_trans h.chg.size h1)⟩
/-- Block p.b is devices d', and no other block than p's has changed. -/
def DevTo (p : DevP) (d' : DevD) (w w' : World) : Prop := ∃ p', DevAt w' p' d' ∧ Mv p p' w w'
theorem DevTo.mk {p p' : DevP} {d' : DevD} {w w' : World} (h : DevAt w' p' d') (k : Mv p p' w w') : DevTo p d' w w' := ⟨p', h, k⟩
end Go.Proofs.YtphhnhldbajaoaaGreatDoor

namespace Go.Proofs.YtphhnhldbajaoaaGreatDoor
open Go.RowKit

theorem mayBe_any (n : Int) (w : World) : Calls Tryz.prog 70 #[.int .i64 n] w fun e w' => e = .returned (.bool (decide (1 ≤ n ∧ n ≤ 512))) ∧ w = w' := by
  by_cases h : 1 ≤ n
  · have e : decide (1 ≤ n ∧ n ≤ 512) = decide (n ≤ 512) := by simp [h]
    rw [e]
    clear e
    go_enter Tryz.func70, Tryz.ntmps70
    go_wp2
    go_ret
    exact ⟨rfl, rfl⟩
  · have e : decide (1 ≤ n ∧ n ≤ 512) = false := by simp; omega
    rw [e]
    clear e
    go_enter Tryz.func70, Tryz.ntmps70
    go_wp2
    go_ret
    exact ⟨rfl, rfl⟩

set_option maxRecDepth 100000 in
theorem dsize_any (p : DevP) (d : DevD) (dev : Int) (w : World) (h : DevAt w p d) : Calls Tryz.prog 55 #[.pointer (some ⟨p.b, 0, none⟩), .int .i64 dev] w fun e w' => e = .returned (.int .i64 (devSize d dev : Nat)) ∧ w = w' := by
  have c0 : w.cell? ⟨p.b, 0, none⟩ = some (.slice (some ⟨p.h0, 0, none⟩) d.s0.has.length p.ch0) := h.box.cell 0 _ rfl
  have c3 : w.cell? ⟨p.b, 3, none⟩ = some (.slice (some ⟨p.h1, 0, none⟩) d.s1.has.length p.ch1) := h.box.cell 3 _ rfl
  clear h
  by_cases h0 : dev < 0
  · rw [show devSize d dev = 0 from by unfold devSize; rw [if_neg (by omega), if_neg (by omega)]]
    go_enter Tryz.func55, Tryz.ntmps55
    go_wp2
    go_ret
    exact ⟨rfl, rfl⟩
  · by_cases h2 : 2 ≤ dev
    · rw [show devSize d dev = 0 from by unfold devSize; rw [if_neg (by omega), if_neg (by omega)]]
      go_enter Tryz.func55, Tryz.ntmps55
      go_wp2
      go_ret
      exact ⟨rfl, rfl⟩
    · have hd : dev = 0 ∨ dev = 1 := by omega
      clear h0 h2
      rcases hd with rfl | rfl
      · rw [show devSize d 0 = d.s0.has.length from rfl]
        go_enter Tryz.func55, Tryz.ntmps55
        go_wp2
        go_ret
        exact ⟨rfl, rfl⟩
      · rw [show devSize d 1 = d.s1.has.length from rfl]
        go_enter Tryz.func55, Tryz.ntmps55
        go_wp2
        go_ret
        exact ⟨rfl, rfl⟩

end Go.Proofs.YtphhnhldbajaoaaGreatDoor

namespace Go.Proofs.YtphhnhldbajaoaaGreatDoor
open Go.RowKit

def emp : ByteArray := ⟨#[]⟩
theorem infoStr : (Tryz.prog.info? 9).map (fun i => (i.zero, i.size, i.bytes)) = some (some (.string ⟨#[]⟩), 1, 16) := by kernel_rfl
theorem Strs.made (w : World) (n : Nat) (hn : n ≤ 1000) : Strs (w.alloc (.cells (madeCells #[Value.string ⟨#[]⟩] n) 9)) w.heap.size n (List.replicate n emp) := by
  refine ⟨by simp, .inr ⟨w.heap.size, n, _, by simp, Nat.zero_le _, (MapKept.heap_alloc w _).1, by simp, by unfold maxLen; omega, by simp [size_madeCells], ?_⟩⟩
  apply List.ext_getElem?
  intro i
  by_cases hi : i < n
  · simp [madeCells, hi, Nat.mod_one, emp]
  · simp [madeCells, hi]

theorem sizeSide : (Tryz.prog.info? 102).map (·.size) = some 3 := by kernel_rfl
set_option maxRecDepth 100000 in
theorem newSide_any (n : Nat) (hn : n ≤ 1000) (w : World) : Calls Tryz.prog 71 #[.int .i64 n] w fun e w' => ∃ h t, e = .returned (.agg #[.slice (some ⟨h, 0, none⟩) n n, .slice (some ⟨t, 0, none⟩) n n, .bool false]) ∧
    Strs w' h n (List.replicate n emp) ∧ Strs w' t n (List.replicate n emp) ∧ h ≠ t ∧ w.heap.size ≤ h ∧ w.heap.size ≤ t ∧ Below w.heap.size w w' := by
  have hmk := fun W => run_make_row' (P := Tryz.prog) 25 9 (.string ⟨#[]⟩) 16 Tryz.underlying25 infoStr rfl .i64 .i64 n (by omega) (by omega) W
  go_enter Tryz.func71, Tryz.ntmps71
  go_wp2_with fail
  go_region
  all_goals
    go_wp2
    generalize hm : Obj.cells (madeCells #[Value.string ⟨#[]⟩] n) 9 = m
  · refine bodyPost_ret (results_cell_row rfl _ _ w.heap.size 102 _ (0, 0) _ rfl (((Box.new w 102 _).alloc m).alloc m) Tryz.underlying102 rfl sizeSide) rfl ?_
    have s1 := Strs.made (w.alloc (.cells #[.slice (some ⟨w.heap.size + 1, 0, none⟩) n n, .slice (some ⟨w.heap.size + 1 + 1, 0, none⟩) n n, .bool false] 102)) n hn
    have s2 := Strs.made ((w.alloc (.cells #[.slice (some ⟨w.heap.size + 1, 0, none⟩) n n, .slice (some ⟨w.heap.size + 1 + 1, 0, none⟩) n n, .bool false] 102)).alloc m) n hn
    rw [hm] at s1 s2
    simp only [size_alloc] at s1 s2
    exact ⟨w.heap.size + 1, w.heap.size + 1 + 1, rfl, World.ownsRow.alloc s1 m, s2, by omega, by omega, by omega, ((((Below.refl _ _).alloc (Nat.le_refl _) _).alloc (by rw [size_alloc]; omega) m).alloc (by rw [size_alloc, size_alloc]; omega) m).drew⟩
  · refine bodyPost_ret (results_cell_row rfl _ _ w.heap.size 102 _ (0, 0) _ rfl (((Box.new w 102 _).alloc m).alloc m) Tryz.underlying102 rfl sizeSide) rfl ?_
    have s1 := Strs.made (w.alloc (.cells #[.slice (some ⟨w.heap.size + 1 + 1, 0, none⟩) n n, .slice (some ⟨w.heap.size + 1, 0, none⟩) n n, .bool false] 102)) n hn
    have s2 := Strs.made ((w.alloc (.cells #[.slice (some ⟨w.heap.size + 1 + 1, 0, none⟩) n n, .slice (some ⟨w.heap.size + 1, 0, none⟩) n n, .bool false] 102)).alloc m) n hn
    rw [hm] at s1 s2
    simp only [size_alloc] at s1 s2
    exact ⟨w.heap.size + 1 + 1, w.heap.size + 1, rfl, s2, World.ownsRow.alloc s1 m, by omega, by omega, by omega, ((((Below.refl _ _).alloc (Nat.le_refl _) _).alloc (by rw [size_alloc]; omega) m).alloc (by rw [size_alloc, size_alloc]; omega) m).drew⟩

def newS (n : Nat) : SideD := ⟨List.replicate n emp, List.replicate n emp, false⟩
def newD (m n : Nat) : DevD := ⟨newS m, newS n, []⟩

/-- New devices. -/
def NewDev (w : World) (m n : Nat) (e : Ending) (w' : World) : Prop := ∃ p, e = .returned (.pointer (some ⟨p.b, 0, none⟩)) ∧ DevAt w' p (newD m n) ∧ (∀ k ∈ p.fp, w.heap.size ≤ k) ∧ Below w.heap.size w w'

set_option maxRecDepth 100000 in
theorem dnew_ok (m n : Nat) (w : World) (hm : 1 ≤ m ∧ m ≤ 512) (hn : 1 ≤ n ∧ n ≤ 512) : Calls Tryz.prog 32 #[.int .i64 m, .int .i64 n] w (NewDev w m n) := by
  have e1 := Lib.hid (show decide (1 ≤ (m : Int) ∧ (m : Int) ≤ 512) = true from decide_eq_true (by omega))
  have e2 := Lib.hid (show decide (1 ≤ (n : Int) ∧ (n : Int) ≤ 512) = true from decide_eq_true (by omega))
  go_enter Tryz.func32, Tryz.ntmps32
  go_wp2_with fail
  refine (mayBe_any m _).mono ?_
  rintro e w' ⟨rfl, rfl⟩
  rw [e1.out]
  go_wp2_with fail
  refine (mayBe_any n _).mono ?_
  rintro e w' ⟨rfl, rfl⟩
  rw [e2.out]
  go_wp2_with fail
  refine (newSide_any m (by omega) _).mono ?_
  rintro e w1 ⟨h0, t0, rfl, sh0, st0, hne0, lh0, lt0, hb1⟩
  have S1 := Lib.hid (And.intro sh0 st0)
  have B1 := Lib.hid hb1
  clear sh0 st0 hb1
  go_wp2_with fail
  refine (newSide_any n (by omega) _).mono ?_
  rintro e w2 ⟨h1, t1, rfl, sh1, st1, hne1, lh1, lt1, hb2⟩
  have l1 := S1.out.1.lt
  have l2 := S1.out.2.lt
  have S2 := Lib.hid (And.intro sh1 st1)
  have l3 := sh1.lt
  have l4 := st1.lt
  have s0 := hb2.size
  have s1 := B1.out.size
  have B2 := Lib.hid hb2
  clear sh1 st1 hb2
  go_wp2
  go_ret
  have C1 : Chg [] w1 w2 := Chg.of B2.out (Nat.le_refl _)
  have nin : ∀ k : Nat, k ∉ ([] : List Nat) := fun _ h => by cases h
  have C2 : ∀ o, Chg [] w2 (w2.alloc o) := fun o => Chg.of ((Below.refl _ _).alloc (Nat.le_refl _) o) (Nat.le_refl _)
  refine ⟨⟨w2.heap.size, h0, t0, h1, t1, m, m, n, n, .slice none 0 0⟩, rfl, ⟨?_, (S1.out.1.chg C1 (nin _)).chg (C2 _) (nin _), (S1.out.2.chg C1 (nin _)).chg (C2 _) (nin _), S2.out.1.chg (C2 _) (nin _), S2.out.2.chg (C2 _) (nin _), World.ownsRow_nil _ _ _ _, ?_, rfl, rfl, ?_, ?_, ?_⟩, ?_, ?_⟩
  · have := Box.new w2 106 #[.slice (some ⟨h0, 0, none⟩) m m, .slice (some ⟨t0, 0, none⟩) m m, .bool false, .slice (some ⟨h1, 0, none⟩) n n, .slice (some ⟨t1, 0, none⟩) n n, .bool false, .slice none 0 0]
    simpa [newD, newS] using this
  · simp only [DevP.fp, Value.ownBlock, Option.toList_none, List.append_nil, List.nodup_cons, List.mem_cons, List.not_mem_nil, not_or, or_false, not_false_eq_true, List.nodup_nil, and_true]
    omega
  · simpa [newD, newS] using hm
  · simpa [newD, newS] using hn
  · intro x hx; cases hx
  · intro k hk
    simp only [DevP.fp, Value.ownBlock, Option.toList_none, List.append_nil, List.mem_cons, List.not_mem_nil, or_false] at hk
    omega
  · exact (B1.out.trans (B2.out.mono B1.out.size)).trans ((Below.refl _ _).alloc (by omega) _)
end Go.Proofs.YtphhnhldbajaoaaGreatDoor

namespace Go.Proofs.YtphhnhldbajaoaaGreatDoor
open Go.RowKit

def locV (l : Int × Int) : Value := .agg #[.int .i64 l.1, .int .i64 l.2]
def chkD (d : DevD) (l : Int × Int) (n : Nat) : Int :=
  if l.2 < 0 ∨ (devSize d l.1 : Int) ≤ l.2 ∨ 1024 < n then 1 else if devLost d l.1 then 5 else 0

set_option maxRecDepth 100000 in
set_option maxHeartbeats 1000000 in
theorem dcheck_any (p : DevP) (d : DevD) (l : Int × Int) (s : ByteArray) (w : World) (h : DevAt w p d) : Calls Tryz.prog 52 #[.pointer (some ⟨p.b, 0, none⟩), locV l, .string s] w fun e w' => e = .returned (.int .i64 (chkD d l s.size)) ∧ Below w.heap.size w w' := by
  obtain ⟨a, b⟩ := l
  have hx := Lib.hid ((Below.refl w.heap.size w).alloc (Nat.le_refl _) (.cells #[.int .i64 a, .int .i64 b] 47 (0, 0)))
  have k0 : (w.alloc (.cells #[.int .i64 a, .int .i64 b] 47 (0, 0))).cell? ⟨w.heap.size, 0, none⟩ = some (.int .i64 a) := boxed0 _ _ _ _ 0 _ rfl
  have k1 : (w.alloc (.cells #[.int .i64 a, .int .i64 b] 47 (0, 0))).cell? ⟨w.heap.size, 1, none⟩ = some (.int .i64 b) := boxed0 _ _ _ _ 1 _ rfl
  have HX := Lib.hid (h.chg (Chg.of (S := []) hx.out (Nat.le_refl _)) (fun _ _ hm => by cases hm))
  have HU : Hid (chkD d (a, b) s.size = if b < 0 ∨ (devSize d a : Int) ≤ b ∨ 1024 < s.size then 1 else if devLost d a then 5 else 0) := rfl
  clear h
  unfold locV
  by_cases h0 : b < 0
  · rw [HU.out, if_pos (Or.inl h0)]
    have hd : decide (b < 0) = true := decide_eq_true h0
    clear h0
    go_enter Tryz.func52, Tryz.ntmps52
    go_wp2_with fail
    generalize World.alloc _ _ = wx at *
    go_region
    go_wp2
    go_ret
    exact ⟨rfl, ⟨hx.out.os, hx.out.tape, hx.out.output, hx.out.size, hx.out.block⟩⟩
  · by_cases h1 : (devSize d a : Int) ≤ b
    · rw [HU.out, if_pos (Or.inr (Or.inl h1))]
      have hd : decide (b < 0) = false := decide_eq_false h0
      have hd2 : decide ((devSize d a : Int) ≤ b) = true := decide_eq_true h1
      obtain ⟨n, hn⟩ : ∃ n, n = devSize d a := ⟨_, rfl⟩
      clear h0 h1 hn
      go_enter Tryz.func52, Tryz.ntmps52
      go_wp2_with fail
      generalize World.alloc _ _ = wx at *
      go_quiet ((go_at_call 55; exact Calls.quiet_of_same ((dsize_any p d _ _ (by exact HX.out.drewN _)).mono fun e w' h => ⟨h.1, h.2.symm⟩)))
      go_wp2
      go_ret
      exact ⟨rfl, ⟨hx.out.os, hx.out.tape, hx.out.output, hx.out.size, hx.out.block⟩⟩
    · by_cases h2 : 1024 < s.size
      · rw [HU.out, if_pos (Or.inr (Or.inr h2))]
        have hd : decide (b < 0) = false := decide_eq_false h0
        have hd2 : decide ((devSize d a : Int) ≤ b) = false := decide_eq_false h1
        have hd3 : (1024 : Int) < s.size := by omega
        clear h0 h1 h2
        go_enter Tryz.func52, Tryz.ntmps52
        go_wp2_with fail
        generalize World.alloc _ _ = wx at *
        go_quiet ((go_at_call 55; exact Calls.quiet_of_same ((dsize_any p d _ _ (by exact HX.out.drewN _)).mono fun e w' h => ⟨h.1, h.2.symm⟩)))
        go_wp2
        go_ret
        exact ⟨rfl, ⟨hx.out.os, hx.out.tape, hx.out.output, hx.out.size, hx.out.block⟩⟩
      · rw [HU.out, if_neg (by omega)]
        have hd : decide (b < 0) = false := decide_eq_false h0
        have hd2 : decide ((devSize d a : Int) ≤ b) = false := decide_eq_false h1
        have hd3 : (s.size : Int) ≤ 1024 := by omega
        have ha : a = 0 ∨ a = 1 := by
          by_cases h3 : a = 0 ∨ a = 1
          · exact h3
          · unfold devSize at h1
            rw [if_neg (by omega), if_neg (by omega)] at h1
            simp at h1; omega
        have c2 : (w.alloc (.cells #[.int .i64 a, .int .i64 b] 47 (0, 0))).cell? ⟨p.b, 2, none⟩ = some (.bool d.s0.lost) := HX.out.box.cell 2 _ rfl
        have c5 : (w.alloc (.cells #[.int .i64 a, .int .i64 b] 47 (0, 0))).cell? ⟨p.b, 5, none⟩ = some (.bool d.s1.lost) := HX.out.box.cell 5 _ rfl
        clear h0 h1 h2
        rcases ha with rfl | rfl
        · rw [show devLost d 0 = d.s0.lost from rfl]
          cases hl : d.s0.lost
          all_goals
            rw [hl] at c2
            have HLo := Lib.hid hl
            clear hl c5
            go_enter Tryz.func52, Tryz.ntmps52
            go_wp2_with fail
            generalize World.alloc _ _ = wx at *
            go_quiet ((go_at_call 55; exact Calls.quiet_of_same ((dsize_any p d _ _ (by exact HX.out.drewN _)).mono fun e w' h => ⟨h.1, h.2.symm⟩)))
            go_wp2_with fail
            go_region
            go_wp2
            go_ret
            exact ⟨rfl, ⟨hx.out.os, hx.out.tape, hx.out.output, hx.out.size, hx.out.block⟩⟩
        · rw [show devLost d 1 = d.s1.lost from rfl]
          cases hl : d.s1.lost
          all_goals
            rw [hl] at c5
            have HLo := Lib.hid hl
            clear hl c2
            go_enter Tryz.func52, Tryz.ntmps52
            go_wp2_with fail
            generalize World.alloc _ _ = wx at *
            go_quiet ((go_at_call 55; exact Calls.quiet_of_same ((dsize_any p d _ _ (by exact HX.out.drewN _)).mono fun e w' h => ⟨h.1, h.2.symm⟩)))
            go_wp2_with fail
            go_region
            go_wp2
            go_ret
            exact ⟨rfl, ⟨hx.out.os, hx.out.tape, hx.out.output, hx.out.size, hx.out.block⟩⟩
end Go.Proofs.YtphhnhldbajaoaaGreatDoor

namespace Go.Proofs.YtphhnhldbajaoaaGreatDoor
open Go.RowKit

def sideOf (d : DevD) (dev : Int) : SideD := if dev = 0 then d.s0 else d.s1
def tellD (d : DevD) (l : Int × Int) : ByteArray := if chkD d l 0 = 0 then (sideOf d l.1).tells.getD l.2.toNat ⟨#[]⟩ else ⟨#[]⟩
theorem chkD_ok {d : DevD} {l : Int × Int} {n : Nat} (h : chkD d l n = 0) : (l.1 = 0 ∨ l.1 = 1) ∧ 0 ≤ l.2 ∧ l.2 < devSize d l.1 ∧ n ≤ 1024 ∧ devLost d l.1 = false := by
  unfold chkD at h
  split at h
  · simp at h
  · rename_i h1
    split at h
    · simp at h
    · rename_i h2
      refine ⟨?_, by omega, by omega, by omega, by simpa using h2⟩
      by_cases h3 : l.1 = 0 ∨ l.1 = 1
      · exact h3
      · have : devSize d l.1 = 0 := by unfold devSize; rw [if_neg (by omega), if_neg (by omega)]
        omega

set_option maxRecDepth 100000 in
set_option maxHeartbeats 1000000 in
theorem dread_any (p : DevP) (d : DevD) (l : Int × Int) (w : World) (h : DevAt w p d) : Calls Tryz.prog 137 #[.pointer (some ⟨p.b, 0, none⟩), locV l] w fun e w' => e = .returned (.tuple #[.string (tellD d l), .int .i64 (chkD d l 0)]) ∧ Below w.heap.size w w' := by
  obtain ⟨a, b⟩ := l
  unfold locV
  have hx := Lib.hid ((Below.refl w.heap.size w).alloc (Nat.le_refl _) (.cells #[.int .i64 a, .int .i64 b] 47 (0, 0)))
  have BX := Lib.hid (Box.new w 47 #[.int .i64 a, .int .i64 b])
  have HX := Lib.hid (h.chg (Chg.of (S := []) hx.out (Nat.le_refl _)) (fun _ _ hm => by cases hm))
  clear h
  have HT : Hid (tellD d (a, b) = if chkD d (a, b) 0 = 0 then (sideOf d a).tells.getD b.toNat ⟨#[]⟩ else ⟨#[]⟩) := rfl
  go_enter Tryz.func137, Tryz.ntmps137
  go_wp2_with fail
  generalize World.alloc _ _ = wx at *
  refine (dcheck_any p d (a, b) ⟨#[]⟩ wx HX.out).mono ?_
  rintro e w1 ⟨rfl, hb⟩
  rw [show (⟨#[]⟩ : ByteArray).size = 0 from rfl]
  have HB := Lib.hid (hx.out.trans (hb.mono hx.out.size))
  have H1 := Lib.hid (HX.out.chg (Chg.of (S := []) hb (Nat.le_refl _)) (fun _ _ hm => by cases hm))
  have B1 := Lib.hid (BX.out.keep hb BX.out.lt)
  clear hb HX BX
  by_cases hc : chkD d (a, b) 0 = 0
  · obtain ⟨ha, h0, h1, _, _⟩ := chkD_ok hc
    simp only at ha h0 h1
    have HC := Lib.hid hc
    rw [hc]
    rw [if_pos hc] at HT
    have k0 : w1.cell? ⟨w.heap.size, 0, none⟩ = some (.int .i64 a) := B1.out.cell 0 _ rfl
    have k1 : w1.cell? ⟨w.heap.size, 1, none⟩ = some (.int .i64 b) := B1.out.cell 1 _ rfl
    obtain ⟨k, rfl⟩ : ∃ k : Nat, b = k := ⟨b.toNat, by omega⟩
    clear hc
    rw [Int.toNat_natCast] at HT
    rcases ha with rfl | rfl
    · have hk : k < d.s0.tells.length := by rw [H1.out.l0]; have : devSize d 0 = d.s0.has.length := rfl; omega
      have c1 : w1.cell? ⟨p.b, 1, none⟩ = some (.slice (some ⟨p.t0, 0, none⟩) d.s0.tells.length p.ct0) := H1.out.box.cell 1 _ rfl
      have ce : w1.cell? ⟨p.t0, k, none⟩ = some (.string ((sideOf d 0).tells.getD k ⟨#[]⟩)) := by
        have e : d.s0.tells[k]? = some ((sideOf d 0).tells.getD k ⟨#[]⟩) := by
          show d.s0.tells[k]? = some (d.s0.tells.getD k ⟨#[]⟩)
          rw [List.getD, List.getElem?_eq_getElem hk]; rfl
        exact H1.out.t0.get k _ e
      generalize (sideOf d 0).tells.getD k ⟨#[]⟩ = x at *
      clear h0 h1
      go_wp2_with fail
      go_region
      go_wp2
      go_ret2
      exact ⟨by rw [HT.out, HC.out]; rfl, HB.out.drew⟩
    · have hk : k < d.s1.tells.length := by rw [H1.out.l1]; have : devSize d 1 = d.s1.has.length := rfl; omega
      have c4 : w1.cell? ⟨p.b, 4, none⟩ = some (.slice (some ⟨p.t1, 0, none⟩) d.s1.tells.length p.ct1) := H1.out.box.cell 4 _ rfl
      have ce : w1.cell? ⟨p.t1, k, none⟩ = some (.string ((sideOf d 1).tells.getD k ⟨#[]⟩)) := by
        have e : d.s1.tells[k]? = some ((sideOf d 1).tells.getD k ⟨#[]⟩) := by
          show d.s1.tells[k]? = some (d.s1.tells.getD k ⟨#[]⟩)
          rw [List.getD, List.getElem?_eq_getElem hk]; rfl
        exact H1.out.t1.get k _ e
      generalize (sideOf d 1).tells.getD k ⟨#[]⟩ = x at *
      clear h0 h1
      go_wp2_with fail
      go_region
      go_wp2
      go_ret2
      exact ⟨by rw [HT.out, HC.out]; rfl, HB.out.drew⟩
  · have hq : (chkD d (a, b) 0 != 0) = true := by simpa using hc
    rw [if_neg hc] at HT
    clear hc
    go_wp2
    go_ret2
    exact ⟨by rw [HT.out]; rfl, HB.out⟩
end Go.Proofs.YtphhnhldbajaoaaGreatDoor

namespace Go.Proofs.YtphhnhldbajaoaaGreatDoor
open Go.RowKit

theorem infoWr : (Tryz.prog.info? 141).map (fun i => (i.zero, i.size, i.bytes)) = some (some (.agg #[.int .i64 0, .int .i64 0, .string ⟨#[]⟩]), 3, 32) := by kernel_rfl
/-- The value v is a slice of the call's own that holds the writes l. -/
def Wrs (w : World) (v : Value) (l : List WrD) : Prop := w.ownsRow 0 141 3 v l.length (l.flatMap WrV)
theorem wrV_len (x : WrD) : (WrV x).length = 3 := rfl
theorem wrV_one (x : WrD) : ∀ u ∈ WrV x, u.oneCell' = true := by
  intro u hu
  simp [WrV] at hu
  rcases hu with rfl | rfl | rfl <;> rfl
theorem Wrs.of {w w' : World} {v : Value} {l : List WrD} (h : Wrs w v l) (hb : ∀ k, v.ownBlock = some k → k < w.heap.size → w'.heap[k]? = w.heap[k]?) : Wrs w' v l := ownsRow_of h hb
theorem Wrs.chg {S : List Nat} {w w' : World} {v : Value} {l : List WrD} (h : Wrs w v l) (hc : Chg S w w') (hs : ∀ k, v.ownBlock = some k → k ∉ S) : Wrs w' v l := h.of fun k hk hlt => hc.block k hlt (hs k hk)
theorem Wrs.below {n : Nat} {w w' : World} {v : Value} {l : List WrD} (h : Wrs w v l) (hb : Below n w w') (hn : w.heap.size ≤ n) : Wrs w' v l := h.of fun k _ hlt => hb.block k (Nat.lt_of_lt_of_le hlt hn)
/-- The row's form, and its cells. -/
theorem Wrs.view {w : World} {v : Value} {l : List WrD} (h : Wrs w v l) : (v = .slice none 0 0 ∧ l = []) ∨ ∃ g cap, v = .slice (some ⟨g, 0, none⟩) l.length cap ∧ g < w.heap.size ∧ l.length ≤ cap ∧ cap ≤ maxLen := by
  rcases h.2 with ⟨rfl, h0⟩ | ⟨g, cap, cur, rfl, hg, hh, hn, hm, _⟩
  · exact .inl ⟨rfl, List.eq_nil_of_length_eq_zero h0⟩
  · exact .inr ⟨g, cap, rfl, lt_of_block hh, hn, hm⟩
theorem Wrs.form {w : World} {v : Value} {l : List WrD} (h : Wrs w v l) : ∃ a cap, v = .slice a l.length cap ∧ (0 < l.length → ∃ g, a = some ⟨g, 0, none⟩) := by
  rcases h.view with ⟨rfl, rfl⟩ | ⟨g, cap, rfl, _⟩
  · exact ⟨none, 0, rfl, fun h => absurd h (by simp)⟩
  · exact ⟨some ⟨g, 0, none⟩, cap, rfl, fun _ => ⟨g, rfl⟩⟩
theorem Wrs.get {w : World} {g cap : Nat} {l : List WrD} (h : Wrs w (.slice (some ⟨g, 0, none⟩) l.length cap) l) (i : Nat) (x : WrD) (hx : l[i]? = some x) :
    w.cell? ⟨g, i * 3, none⟩ = some (.int .i64 x.1.1) ∧ w.cell? ⟨g, i * 3 + 1, none⟩ = some (.int .i64 x.1.2) ∧ w.cell? ⟨g, i * 3 + 2, none⟩ = some (.string x.2) := by
  have hi : i < l.length := (List.getElem?_eq_some_iff.1 hx).1
  refine ⟨?_, ?_, ?_⟩
  · have := flat_get WrV 3 wrV_len l i x hx 0 (by decide)
    rw [World.ownsRow.cellAt h (i * 3) (by omega)]; exact this
  · have := flat_get WrV 3 wrV_len l i x hx 1 (by decide)
    rw [World.ownsRow.cellAt h (i * 3 + 1) (by omega)]; exact this
  · have := flat_get WrV 3 wrV_len l i x hx 2 (by decide)
    rw [World.ownsRow.cellAt h (i * 3 + 2) (by omega)]; exact this
theorem chg_grown {w w' : World} {r : Option Nat} (h : w.grownBy w' r) : Chg r.toList w w' :=
  ⟨h.os, h.tape, h.output, h.size, fun k hk hn => h.block k hk (fun e => hn (by rw [← e]; simp))⟩

/-- 'append(out, x)' of one write, at a step of a region. -/
theorem step_wr_push {ops : Array Oper} {o : Oper} {a : Act} {W : World} {K : Act → World → Prop} {Q : Exit → Act → World → Prop} {E : Prop} (hgd : o.guard = none) (s x : Operand)
    (ho : o.op = .call { callee := .builtin .append, args := #[s, x], argTypes := #[104, 104] })
    (v : Value) (l : List WrD) (hs : a.eval s = v) (hb : Wrs W v l)
    (ad : Addr) (c : Nat) (p : WrD) (hx : a.eval x = .slice (some ad) 1 c) (hcell : ∀ j u, (WrV p)[j]? = some u → W.cell? (ad.add j) = some u)
    (hbytes : l.length ≤ 100000)
    (h : ∀ g cap w', Wrs w' (.slice (some ⟨g, 0, none⟩) (l.length + 1) cap) (l ++ [p]) → Chg v.ownBlock.toList W w' → (v.ownBlock = some g ∨ g = W.heap.size) → K (a.put o.dst (.slice (some ⟨g, 0, none⟩) (l.length + 1) cap)) w') :
    if Region.wanted o (yielded ops a.tmps) = true then Oper.wp Tryz.prog o a W K Q else E := by
  have hw : Region.wanted o (yielded ops a.tmps) = true := by simp [Region.wanted, hgd]
  rw [if_pos hw]
  obtain ⟨i0, hi, hz0, hz1, hz2⟩ := info_parts infoWr
  obtain ⟨v', w', hr, hown, hg, _, hob⟩ := run_append_own_at (P := Tryz.prog) W 0 104 o.type 141 i0 (.agg #[.int .i64 0, .int .i64 0, .string ⟨#[]⟩]) 3 32 Tryz.underlying104 hi hz0 hz1 hz2 rfl (by decide) v l.length _ hb ad 1 c (WrV p) rfl hcell (wrV_one p) (by unfold maxLen; omega) (by omega) (Nat.zero_le _)
  have hW : Wrs w' v' (l ++ [p]) := by
    unfold Wrs
    rw [List.flatMap_append, List.length_append]
    exact hown
  obtain ⟨g, cap, e, _⟩ : ∃ g cap, v' = .slice (some ⟨g, 0, none⟩) (l.length + 1) cap ∧ True := by
    rcases hown.2 with ⟨_, h0⟩ | ⟨g, cap, _, e, _⟩
    · omega
    · exact ⟨g, cap, e, trivial⟩
  subst e
  unfold Oper.wp execOp
  simp only [ho, resolve, invoke, builtin, Sem.run_bind, Sem.run_pure, Result.andThen_ok, List.map_toArray, List.map_cons, List.map_nil, hs, hx, hr]
  refine h g cap w' hW (chg_grown hg) ?_
  rcases hob with h1 | h1
  · exact .inl (h1.symm.trans rfl)
  · right
    simpa [Value.ownBlock] using h1

def setTell (d : DevD) (l : Int × Int) (s : ByteArray) : DevD :=
  if l.1 = 0 then { d with s0 := { d.s0 with tells := d.s0.tells.set l.2.toNat s } } else { d with s1 := { d.s1 with tells := d.s1.tells.set l.2.toNat s } }
def setHas (d : DevD) (l : Int × Int) (s : ByteArray) : DevD :=
  if l.1 = 0 then { d with s0 := { d.s0 with has := d.s0.has.set l.2.toNat s } } else { d with s1 := { d.s1 with has := d.s1.has.set l.2.toNat s } }
def DevP.tb (p : DevP) (dev : Int) : Nat := if dev = 0 then p.t0 else p.t1
def DevP.hb (p : DevP) (dev : Int) : Nat := if dev = 0 then p.h0 else p.h1

theorem size_setTell (d : DevD) (l : Int × Int) (s : ByteArray) (dev : Int) : devSize (setTell d l s) dev = devSize d dev := by
  by_cases h : l.1 = 0 <;> simp [setTell, devSize, h]
theorem size_setHas (d : DevD) (l : Int × Int) (s : ByteArray) (dev : Int) : devSize (setHas d l s) dev = devSize d dev := by
  by_cases h : l.1 = 0 <;> simp [setHas, devSize, h]

theorem DevAt.ne {w : World} {p : DevP} {d : DevD} (h : DevAt w p d) : p.b ≠ p.h0 ∧ p.b ≠ p.t0 ∧ p.b ≠ p.h1 ∧ p.b ≠ p.t1 ∧ p.h0 ≠ p.t0 ∧ p.h0 ≠ p.h1 ∧ p.h0 ≠ p.t1 ∧ p.t0 ≠ p.h1 ∧ p.t0 ≠ p.t1 ∧ p.h1 ≠ p.t1 ∧
    ∀ k, p.wv.ownBlock = some k → p.b ≠ k ∧ p.h0 ≠ k ∧ p.t0 ≠ k ∧ p.h1 ≠ k ∧ p.t1 ≠ k := by
  have hn := h.nd
  simp only [DevP.fp, List.cons_append, List.nil_append, List.nodup_cons, List.mem_cons, not_or, Option.mem_toList] at hn
  obtain ⟨⟨a1, a2, a3, a4, a5⟩, ⟨b2, b3, b4, b5⟩, ⟨c3, c4, c5⟩, ⟨d4, d5⟩, e5, _⟩ := hn
  exact ⟨a1, a2, a3, a4, b2, b3, b4, c3, c4, d4, fun k hk => ⟨fun e => a5 (e ▸ hk), fun e => b5 (e ▸ hk), fun e => c5 (e ▸ hk), fun e => d5 (e ▸ hk), fun e => e5 (e ▸ hk)⟩⟩

theorem DevAt.lt {w : World} {p : DevP} {d : DevD} (h : DevAt w p d) : ∀ k ∈ p.fp, k < w.heap.size := by
  intro k hk
  simp only [DevP.fp, List.mem_append, List.mem_cons, List.not_mem_nil, or_false, Option.mem_toList] at hk
  rcases hk with (rfl | rfl | rfl | rfl | rfl) | h1
  · exact h.box.lt
  · exact h.h0.lt
  · exact h.t0.lt
  · exact h.h1.lt
  · exact h.t1.lt
  · exact ownsRow_lt h.wt k h1

/-- A store into another block. -/
theorem chg_set (w : World) (b j : Nat) (v : Value) : Chg [b] w (w.setCell ⟨b, j, none⟩ v) := Chg.only (Only.set b j w v)

theorem DevAt.setTell {w : World} {p : DevP} {d : DevD} (h : DevAt w p d) (l : Int × Int) (hl : l.1 = 0 ∨ l.1 = 1) (s : ByteArray) : DevAt (w.setCell ⟨p.tb l.1, l.2.toNat, none⟩ (.string s)) p (setTell d l s) := by
  have hc := chg_set w (p.tb l.1) l.2.toNat (.string s)
  obtain ⟨n1, n2, n3, n4, n5, n6, n7, n8, n9, n10, n11⟩ := h.ne
  have hw : ∀ x ∈ d.waits, locOk (Go.Proofs.YtphhnhldbajaoaaGreatDoor.setTell d l s) x.1 := fun x hx => by have := h.wok x hx; unfold locOk at *; rw [size_setTell]; exact this
  rcases hl with e | e
  · have e1 : p.tb l.1 = p.t0 := by unfold DevP.tb; rw [if_pos e]
    have e2 : Go.Proofs.YtphhnhldbajaoaaGreatDoor.setTell d l s = { d with s0 := { d.s0 with tells := d.s0.tells.set l.2.toNat s } } := by unfold Go.Proofs.YtphhnhldbajaoaaGreatDoor.setTell; rw [if_pos e]
    rw [e2] at hw ⊢
    rw [e1] at hc ⊢
    have hb := h.box.of (hc.block p.b h.box.lt (by simpa using n2))
    exact ⟨by simpa using hb, h.h0.chg hc (by simpa using n5), h.t0.set _ _, h.h1.chg hc (by simpa using Ne.symm n8), h.t1.chg hc (by simpa using Ne.symm n9),
      ownsRow_of h.wt fun k hk hlt => hc.block k hlt (by simpa using Ne.symm (n11 k hk).2.2.1), h.nd, by simpa using h.l0, h.l1, h.n0, h.n1, hw⟩
  · have e0 : ¬ l.1 = 0 := by omega
    have e1 : p.tb l.1 = p.t1 := by unfold DevP.tb; rw [if_neg e0]
    have e2 : Go.Proofs.YtphhnhldbajaoaaGreatDoor.setTell d l s = { d with s1 := { d.s1 with tells := d.s1.tells.set l.2.toNat s } } := by unfold Go.Proofs.YtphhnhldbajaoaaGreatDoor.setTell; rw [if_neg e0]
    rw [e2] at hw ⊢
    rw [e1] at hc ⊢
    have hb := h.box.of (hc.block p.b h.box.lt (by simpa using n4))
    exact ⟨by simpa using hb, h.h0.chg hc (by simpa using n7), h.t0.chg hc (by simpa using n9), h.h1.chg hc (by simpa using n10), h.t1.set _ _,
      ownsRow_of h.wt fun k hk hlt => hc.block k hlt (by simpa using Ne.symm (n11 k hk).2.2.2.2), h.nd, h.l0, by simpa using h.l1, h.n0, h.n1, hw⟩

theorem DevAt.setHas {w : World} {p : DevP} {d : DevD} (h : DevAt w p d) (l : Int × Int) (hl : l.1 = 0 ∨ l.1 = 1) (s : ByteArray) : DevAt (w.setCell ⟨p.hb l.1, l.2.toNat, none⟩ (.string s)) p (setHas d l s) := by
  have hc := chg_set w (p.hb l.1) l.2.toNat (.string s)
  obtain ⟨n1, n2, n3, n4, n5, n6, n7, n8, n9, n10, n11⟩ := h.ne
  have hw : ∀ x ∈ d.waits, locOk (Go.Proofs.YtphhnhldbajaoaaGreatDoor.setHas d l s) x.1 := fun x hx => by have := h.wok x hx; unfold locOk at *; rw [size_setHas]; exact this
  rcases hl with e | e
  · have e1 : p.hb l.1 = p.h0 := by unfold DevP.hb; rw [if_pos e]
    have e2 : Go.Proofs.YtphhnhldbajaoaaGreatDoor.setHas d l s = { d with s0 := { d.s0 with has := d.s0.has.set l.2.toNat s } } := by unfold Go.Proofs.YtphhnhldbajaoaaGreatDoor.setHas; rw [if_pos e]
    rw [e2] at hw ⊢
    rw [e1] at hc ⊢
    have hb := h.box.of (hc.block p.b h.box.lt (by simpa using n1))
    exact ⟨by simpa using hb, h.h0.set _ _, h.t0.chg hc (by simpa using Ne.symm n5), h.h1.chg hc (by simpa using Ne.symm n6), h.t1.chg hc (by simpa using Ne.symm n7),
      ownsRow_of h.wt fun k hk hlt => hc.block k hlt (by simpa using Ne.symm (n11 k hk).2.1), h.nd, by simpa using h.l0, h.l1, by simpa using h.n0, h.n1, hw⟩
  · have e0 : ¬ l.1 = 0 := by omega
    have e1 : p.hb l.1 = p.h1 := by unfold DevP.hb; rw [if_neg e0]
    have e2 : Go.Proofs.YtphhnhldbajaoaaGreatDoor.setHas d l s = { d with s1 := { d.s1 with has := d.s1.has.set l.2.toNat s } } := by unfold Go.Proofs.YtphhnhldbajaoaaGreatDoor.setHas; rw [if_neg e0]
    rw [e2] at hw ⊢
    rw [e1] at hc ⊢
    have hb := h.box.of (hc.block p.b h.box.lt (by simpa using n3))
    exact ⟨by simpa using hb, h.h0.chg hc (by simpa using n6), h.t0.chg hc (by simpa using n8), h.h1.set _ _, h.t1.chg hc (by simpa using Ne.symm n10),
      ownsRow_of h.wt fun k hk hlt => hc.block k hlt (by simpa using Ne.symm (n11 k hk).2.2.2.1), h.nd, h.l0, by simpa using h.l1, h.n0, by simpa using h.n1, hw⟩

/-- The waiting writes lie in a row v' now, and the head's cell says so. -/
theorem DevAt.newWaits {w w1 : World} {p : DevP} {d : DevD} (h : DevAt w p d) (hc : Chg p.wv.ownBlock.toList w w1) {v' : Value} {ws : List WrD} (hr : Wrs w1 v' ws)
    (hv : ∀ k, v'.ownBlock = some k → p.wv.ownBlock = some k ∨ w.heap.size ≤ k) (hok : ∀ x ∈ ws, locOk d x.1) :
    DevAt (w1.setCell ⟨p.b, 6, none⟩ v') { p with wv := v' } { d with waits := ws } ∧ Mv p { p with wv := v' } w (w1.setCell ⟨p.b, 6, none⟩ v') := by
  obtain ⟨n1, n2, n3, n4, n5, n6, n7, n8, n9, n10, n11⟩ := h.ne
  have ha : ∀ k, k < w.heap.size → (∀ j, p.wv.ownBlock = some j → j ≠ k) → k ∉ p.wv.ownBlock.toList := fun k _ hj hm => hj k (by simpa using hm) rfl
  have hB := h.box.of (hc.block p.b h.box.lt (ha _ h.box.lt fun j hj => Ne.symm (n11 j hj).1))
  have s0 := h.h0.chg hc (ha _ h.h0.lt fun j hj => Ne.symm (n11 j hj).2.1)
  have s1 := h.t0.chg hc (ha _ h.t0.lt fun j hj => Ne.symm (n11 j hj).2.2.1)
  have s2 := h.h1.chg hc (ha _ h.h1.lt fun j hj => Ne.symm (n11 j hj).2.2.2.1)
  have s3 := h.t1.chg hc (ha _ h.t1.lt fun j hj => Ne.symm (n11 j hj).2.2.2.2)
  have hcs := chg_set w1 p.b 6 v'
  have hne : ∀ k, v'.ownBlock = some k → p.b ≠ k ∧ p.h0 ≠ k ∧ p.t0 ≠ k ∧ p.h1 ≠ k ∧ p.t1 ≠ k := fun k hk => by
    rcases hv k hk with h1 | h1
    · exact n11 k h1
    · have := h.box.lt; have := h.h0.lt; have := h.t0.lt; have := h.h1.lt; have := h.t1.lt
      exact ⟨by omega, by omega, by omega, by omega, by omega⟩
  refine ⟨⟨by simpa using hB.set 6 v', s0.chg hcs (by simpa using Ne.symm n1), s1.chg hcs (by simpa using Ne.symm n2), s2.chg hcs (by simpa using Ne.symm n3), s3.chg hcs (by simpa using Ne.symm n4),
    Wrs.chg hr hcs (fun k hk => by simpa using Ne.symm (hne k hk).1), ?_, h.l0, h.l1, h.n0, h.n1, hok⟩, ⟨rfl, ?_, ?_⟩⟩
  · have hd := h.nd
    simp only [DevP.fp, List.cons_append, List.nil_append, List.nodup_cons, List.mem_cons, not_or, Option.mem_toList] at hd ⊢
    refine ⟨⟨n1, n2, n3, n4, fun e => (hne _ e).1 rfl⟩, ⟨n5, n6, n7, fun e => (hne _ e).2.1 rfl⟩, ⟨n8, n9, fun e => (hne _ e).2.2.1 rfl⟩, ⟨n10, fun e => (hne _ e).2.2.2.1 rfl⟩, fun e => (hne _ e).2.2.2.2 rfl, ?_⟩
    cases v'.ownBlock <;> simp
  · refine (hc.mono (S' := p.fp) (fun k hk => by simp only [DevP.fp]; exact List.mem_append_right _ hk)).trans (hcs.mono fun k hk => ?_)
    rw [List.mem_singleton] at hk
    simp [DevP.fp, hk]
  · intro k hk
    simp only [DevP.fp, List.mem_append, Option.mem_toList] at hk ⊢
    rcases hk with h1 | h1
    · exact .inl (.inl h1)
    · rcases hv k h1 with h2 | h2
      · exact .inl (.inr h2)
      · exact .inr h2
theorem DevAt.tells0 {w w' : World} {p : DevP} {d : DevD} (h : DevAt w p d) {l : List ByteArray} (hS : Strs w' p.t0 p.ct0 l) (hl : l.length = d.s0.tells.length) (hc : Chg [p.t0] w w') : DevAt w' p { d with s0 := { d.s0 with tells := l } } := by
  obtain ⟨n1, n2, n3, n4, n5, n6, n7, n8, n9, n10, n11⟩ := h.ne
  have hb := h.box.of (hc.block p.b h.box.lt (by simpa using n2))
  have hw : ∀ x ∈ d.waits, locOk { d with s0 := { d.s0 with tells := l } } x.1 := fun x hx => by
    have := h.wok x hx
    unfold locOk devSize at *
    simp only
    simpa [hl] using this
  refine ⟨by simpa [hl] using hb, h.h0.chg hc (by simpa using n5), hS, h.h1.chg hc (by simpa using Ne.symm n8), h.t1.chg hc (by simpa using Ne.symm n9), ownsRow_of h.wt fun k hk hlt => hc.block k hlt (by simpa using Ne.symm (n11 k hk).2.2.1), h.nd, by simpa [hl] using h.l0, h.l1, h.n0, h.n1, hw⟩
theorem DevAt.tells1 {w w' : World} {p : DevP} {d : DevD} (h : DevAt w p d) {l : List ByteArray} (hS : Strs w' p.t1 p.ct1 l) (hl : l.length = d.s1.tells.length) (hc : Chg [p.t1] w w') : DevAt w' p { d with s1 := { d.s1 with tells := l } } := by
  obtain ⟨n1, n2, n3, n4, n5, n6, n7, n8, n9, n10, n11⟩ := h.ne
  have hb := h.box.of (hc.block p.b h.box.lt (by simpa using n4))
  have hw : ∀ x ∈ d.waits, locOk { d with s1 := { d.s1 with tells := l } } x.1 := fun x hx => by
    have := h.wok x hx
    unfold locOk devSize at *
    simp only
    simpa [hl] using this
  refine ⟨by simpa [hl] using hb, h.h0.chg hc (by simpa using n7), h.t0.chg hc (by simpa using n9), h.h1.chg hc (by simpa using n10), hS, ownsRow_of h.wt fun k hk hlt => hc.block k hlt (by simpa using Ne.symm (n11 k hk).2.2.2.2), h.nd, h.l0, by simpa [hl] using h.l1, h.n0, h.n1, hw⟩
theorem DevAt.mvTell {w : World} {p : DevP} {d : DevD} (_h : DevAt w p d) (dev : Int) (j : Nat) (v : Value) : Mv p p w (w.setCell ⟨p.tb dev, j, none⟩ v) := by
  refine ⟨rfl, (chg_set w _ j v).mono fun k hk => ?_, fun k hk => .inl hk⟩
  rw [List.mem_singleton] at hk
  subst hk
  unfold DevP.tb
  split <;> simp [DevP.fp]
theorem Mv.ofChg {p p' : DevP} {w w1 w2 : World} (hc : Chg [] w w1) (h : Mv p p' w1 w2) : Mv p p' w w2 :=
  ⟨h.b, (hc.mono (S' := p.fp) (fun _ hk => by cases hk)).trans h.chg, fun k hk => by
    rcases h.fp k hk with h1 | h1
    · exact .inl h1
    · exact .inr (Nat.le_trans hc.size h1)⟩
theorem Mv.ofChg' {p p' : DevP} {w w1 w2 : World} (h : Mv p p' w1 w2) (hc : Chg p.fp w w1) : Mv p p' w w2 :=
  ⟨h.b, hc.trans h.chg, fun k hk => by
    rcases h.fp k hk with h1 | h1
    · exact .inl h1
    · exact .inr (Nat.le_trans hc.size h1)⟩
theorem DevTo.ofChg {p : DevP} {d' : DevD} {w w1 w2 : World} (hc : Chg [] w w1) (h : DevTo p d' w1 w2) : DevTo p d' w w2 := by
  obtain ⟨p', h1, h2⟩ := h
  exact ⟨p', h1, h2.ofChg hc⟩
theorem DevTo.drew {p : DevP} {d' : DevD} {w w' : World} (h : DevTo p d' w w') : DevTo p d' w w'.drew := by
  obtain ⟨p', h1, h2⟩ := h
  exact ⟨p', h1.drewN 1, ⟨h2.b, h2.chg.drew, h2.fp⟩⟩
end Go.Proofs.YtphhnhldbajaoaaGreatDoor
