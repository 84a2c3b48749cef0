/-
  Texts put together: DevFlush, DevCrash, DevForget, DevForgetS, DevSpoil, DevOne0, DevOneS, DevLostF, DevOneL, ClassA, ClassB, ClassC, ClassE, Sched2.
-/
import Derived.Test.YtphhnhldbajaoaaGreatDoorMg9
import Derived.Test.YtphhnhldbajaoaaGreatDoorMg8
import Derived.Laws.CopyRow
import Derived.StillTailTactics
import Derived.Test.YtphhnhldbajaoaaGreatDoorMg0
import Derived.Deep.QuietTactic
import Derived.BigQuiet
import Derived.Lib.Hide
import Derived.Test.YtphhnhldbajaoaaGreatDoorMg3
namespace Go.Proofs.YtphhnhldbajaoaaGreatDoor
open Go.RowKit Go.ChangeShapes Go.WideShapes Go.ChangeAt

theorem DevAt.wvNe {w : World} {p : DevP} {d : DevD} (h : DevAt w p d) : ∀ k, p.wv.ownBlock = some k → k ≠ p.h0 ∧ k ≠ p.h1 := fun k hk =>
  ⟨Ne.symm (h.ne.2.2.2.2.2.2.2.2.2.2 k hk).2.1, Ne.symm (h.ne.2.2.2.2.2.2.2.2.2.2 k hk).2.2.2.1⟩

set_option maxRecDepth 100000 in
theorem flush_any (p : DevP) (d : DevD) (w : World) (h : DevAt w p d) (hlen : d.waits.length ≤ 100000) : Calls Tryz.prog 22 #[.pointer (some ⟨p.b, 0, none⟩)] w fun e w' => e = .returned (.int .i64 0) ∧ DevTo p (endD d d.waits) w w' := by
  have c6 : w.cell? ⟨p.b, 6, none⟩ = some p.wv := h.box.cell 6 _ rfl
  have H := Lib.hid h
  have HL := Lib.hid hlen
  clear h hlen
  go_enter Tryz.func22, Tryz.ntmps22
  go_wp2_with fail
  refine (dend_any p d p.wv d.waits _ H.out H.out.wt H.out.wvNe H.out.wok HL.out).mono ?_
  rintro e w1 ⟨rfl, hd⟩
  have HD := Lib.hid hd
  clear hd c6
  go_wp2
  go_ret
  exact ⟨rfl, HD.out⟩

end Go.Proofs.YtphhnhldbajaoaaGreatDoor

namespace Go.Proofs.YtphhnhldbajaoaaGreatDoor
open Go.RowKit Go.ChangeShapes Go.WideShapes Go.ChangeAt

end Go.Proofs.YtphhnhldbajaoaaGreatDoor

namespace Go.Proofs.YtphhnhldbajaoaaGreatDoor
open Go.RowKit Go.ChangeShapes Go.WideShapes Go.ChangeAt

end Go.Proofs.YtphhnhldbajaoaaGreatDoor

namespace Go.Proofs.YtphhnhldbajaoaaGreatDoor
open Go.RowKit Go.ChangeShapes Go.WideShapes Go.ChangeAt

end Go.Proofs.YtphhnhldbajaoaaGreatDoor

namespace Go.Proofs.YtphhnhldbajaoaaGreatDoor
open Go.RowKit Go.ChangeShapes Go.WideShapes Go.ChangeAt

end Go.Proofs.YtphhnhldbajaoaaGreatDoor

namespace Go.Proofs.YtphhnhldbajaoaaGreatDoor
open Go.RowKit Go.ChangeShapes Go.WideShapes Go.ChangeAt

/-- Block b is devices d, whose blocks are F. -/
def DevF (b : Nat) (d : DevD) (F : List Nat) (w : World) : Prop := ∃ p, p.b = b ∧ DevAt w p d ∧ F = p.fp
theorem fixed_dev (b : Nat) (d : DevD) : Fixed (DevF b d) := by
  refine ⟨?_, ?_⟩
  · rintro G S w1 w2 ⟨p, e, h, rfl⟩ hc hn
    exact ⟨p, e, h.chg hc hn, rfl⟩
  · rintro G w ⟨p, e, h, rfl⟩
    exact h.lt
/-- What the call owns, all from B on: P. -/
def Rest (B : Nat) (P : List Nat → World → Prop) (w : World) : Prop := ∃ G, P G w ∧ ∀ k ∈ G, B ≤ k
/-- Devices, and P beside them. -/
def One (B : Nat) (P : List Nat → World → Prop) (b : Nat) (d : DevD) (w : World) : Prop := B ≤ w.heap.size ∧ ∃ F G, DevF b d F w ∧ P G w ∧ (∀ k ∈ F, B ≤ k ∧ k ∉ G) ∧ ∀ k ∈ G, B ≤ k
/-- Whatever leaves old memory alone. -/
theorem One.keep {B : Nat} {P : List Nat → World → Prop} {b : Nat} {d : DevD} {w w' : World} (hP : Fixed P) (h : One B P b d w) (hb : Below w.heap.size w w') : One B P b d w' := by
  obtain ⟨hz, F, G, h1, h2, h3, h4⟩ := h
  have hc : Chg [] w w' := Chg.of hb (Nat.le_refl _)
  exact ⟨Nat.le_trans hz hb.size, F, G, (fixed_dev b d).keep _ _ _ _ h1 hc (fun _ _ h => by cases h), hP.keep _ _ _ _ h2 hc (fun _ _ h => by cases h), h3, h4⟩
theorem One.drew {B : Nat} {P : List Nat → World → Prop} {b : Nat} {d : DevD} {w : World} (hP : Fixed P) (h : One B P b d w) : One B P b d w.drew := h.keep hP (Below.refl _ _).drew
/-- A call on the devices. -/
theorem One.step {B : Nat} {P : List Nat → World → Prop} {p : DevP} {d' : DevD} {w w' : World} (hP : Fixed P) (hz : B ≤ w.heap.size) {G : List Nat} (h2 : P G w) (h3 : ∀ k ∈ p.fp, B ≤ k ∧ k ∉ G) (h4 : ∀ k ∈ G, B ≤ k) (h : DevTo p d' w w') : One B P p.b d' w' ∧ Below B w w' := by
  obtain ⟨p', hd, hm⟩ := h
  refine ⟨⟨Nat.le_trans hz hm.chg.size, p'.fp, G, ⟨p', hm.b, hd, rfl⟩, hP.keep _ _ _ _ h2 hm.chg (fun k hk hf => (h3 k hf).2 hk), fun k hk => ?_, h4⟩, hm.chg.below hz (fun k hk => (h3 k hk).1)⟩
  rcases hm.fp k hk with h5 | h5
  · exact h3 k h5
  · exact ⟨by omega, fun hg => by have := hP.lt _ _ h2 k hg; omega⟩

theorem one_new (B : Nat) {P : List Nat → World → Prop} (hP : Fixed P) (m n : Nat) (w : World) (hz : B ≤ w.heap.size) (h : Rest B P w) (hm : 1 ≤ m ∧ m ≤ 512) (hn : 1 ≤ n ∧ n ≤ 512) :
    Calls Tryz.prog 32 #[.int .i64 m, .int .i64 n] w fun e w' => ∃ b, e = .returned (.pointer (some ⟨b, 0, none⟩)) ∧ One B P b (newD m n) w' ∧ Below B w w' := by
  refine (dnew_ok m n w hm hn).mono ?_
  rintro e w' ⟨p, rfl, hd, hf, hb⟩
  obtain ⟨G, h1, h2⟩ := h
  exact ⟨p.b, rfl, ⟨Nat.le_trans hz hb.size, p.fp, G, ⟨p, rfl, hd, rfl⟩, hP.keep _ _ _ _ h1 (Chg.of (S := []) hb (Nat.le_refl _)) (fun _ _ h => by cases h), fun k hk => ⟨Nat.le_trans hz (hf k hk), fun hg => by have := hf k hk; have := hP.lt _ _ h1 k hg; omega⟩, h2⟩, hb.mono hz⟩

section
variable {B : Nat} {P : List Nat → World → Prop} (hP : Fixed P) {b : Nat} {d : DevD} {w : World} (h : One B P b d w)
include hP h
omit hP in
theorem one_size (dev : Int) : Calls Tryz.prog 55 #[.pointer (some ⟨b, 0, none⟩), .int .i64 dev] w fun e w' => e = .returned (.int .i64 (devSize d dev : Nat)) ∧ w = w' := by
  obtain ⟨_, F, G, ⟨p, rfl, hd, rfl⟩, _⟩ := h
  exact dsize_any p d dev w hd
theorem one_write (l : Int × Int) (s : ByteArray) (hlen : d.waits.length ≤ 100000) : Calls Tryz.prog 106 #[.pointer (some ⟨b, 0, none⟩), locV l, .string s] w fun e w' => e = .returned (.int .i64 (chkD d l s.size)) ∧ One B P b (writeD d l s) w' ∧ Below B w w' := by
  obtain ⟨hz, F, G, ⟨p, rfl, hd, rfl⟩, h2, h3, h4⟩ := id h
  exact (dwrite_any p d l s w hd hlen).mono fun e w' hh => ⟨hh.1, One.step hP hz h2 h3 h4 hh.2⟩
theorem one_flush (hlen : d.waits.length ≤ 100000) : Calls Tryz.prog 22 #[.pointer (some ⟨b, 0, none⟩)] w fun e w' => e = .returned (.int .i64 0) ∧ One B P b (endD d d.waits) w' ∧ Below B w w' := by
  obtain ⟨hz, F, G, ⟨p, rfl, hd, rfl⟩, h2, h3, h4⟩ := id h
  exact (flush_any p d w hd hlen).mono fun e w' hh => ⟨hh.1, One.step hP hz h2 h3 h4 hh.2⟩
end
end Go.Proofs.YtphhnhldbajaoaaGreatDoor

namespace Go.Proofs.YtphhnhldbajaoaaGreatDoor
open Go.RowKit Go.ChangeShapes Go.WideShapes Go.ChangeAt

theorem one_readS {B : Nat} {P : List Nat → World → Prop} (hP : Fixed P) {b : Nat} {d : DevD} {w : World} (h : One B P b d w) (l : Int × Int) :
    Calls Tryz.prog 137 #[.pointer (some ⟨b, 0, none⟩), locV l] w fun e w' => e = .returned (.tuple #[.string (tellD d l), .int .i64 (chkD d l 0)]) ∧ One B P b d w' ∧ Below w.heap.size w w' := by
  obtain ⟨hz, F, G, ⟨p, rfl, hd, rfl⟩, _⟩ := id h
  exact (dread_any p d l w hd).mono fun e w' hh => ⟨hh.1, h.keep hP hh.2, hh.2⟩

/-- A block of the call's own. -/
def BoxP (g : Nat) (t : TypeId) (cs : Array Value) (G : List Nat) (w : World) : Prop := G = [g] ∧ Box w g t cs
theorem fixed_box (g : Nat) (t : TypeId) (cs : Array Value) : Fixed (BoxP g t cs) := by
  refine ⟨?_, ?_⟩
  · rintro G S w1 w2 ⟨rfl, hb⟩ hc hn
    exact ⟨rfl, hb.of (hc.block g hb.lt (hn g (by simp)))⟩
  · rintro G w ⟨rfl, hb⟩ k hk
    rw [List.mem_singleton] at hk
    rw [hk]; exact hb.lt
theorem One.addBox {B : Nat} {P : List Nat → World → Prop} {b : Nat} {d : DevD} {w : World} (hP : Fixed P) (h : One B P b d w) (t : TypeId) (cs : Array Value) : One B (Both P (BoxP w.heap.size t cs)) b d (w.alloc (.cells cs t (0, 0))) := by
  have hb : Below w.heap.size w (w.alloc (.cells cs t (0, 0))) := (Below.refl _ _).alloc (Nat.le_refl _) _
  obtain ⟨hz, F, G, h1, h2, h3, h4⟩ := h.keep hP hb
  obtain ⟨hz0, F0, G0, g1, g2, g3, g4⟩ := h
  have hc : Chg [] w (w.alloc (.cells cs t (0, 0))) := Chg.of hb (Nat.le_refl _)
  have hFl := (fixed_dev b d).lt _ _ g1
  have hGl := hP.lt _ _ g2
  refine ⟨hz, F0, G0 ++ [w.heap.size], (fixed_dev b d).keep _ _ _ _ g1 hc (fun _ _ h => by cases h), ⟨G0, [w.heap.size], rfl, hP.keep _ _ _ _ g2 hc (fun _ _ h => by cases h), ⟨rfl, Box.new w t cs⟩, fun k hk => ?_⟩, fun k hk => ⟨(g3 k hk).1, fun hm => ?_⟩, fun k hk => ?_⟩
  · have := hGl k hk; simp; omega
  · rcases List.mem_append.1 hm with h5 | h5
    · exact (g3 k hk).2 h5
    · rw [List.mem_singleton] at h5; have := hFl k hk; omega
  · rcases List.mem_append.1 hk with h5 | h5
    · exact g4 k h5
    · rw [List.mem_singleton] at h5; omega
theorem One.box {B : Nat} {P : List Nat → World → Prop} {b g : Nat} {d : DevD} {w : World} {t : TypeId} {cs : Array Value} (h : One B (Both P (BoxP g t cs)) b d w) : Box w g t cs := by
  obtain ⟨_, _, _, _, ⟨_, _, _, _, ⟨_, hb⟩, _⟩, _⟩ := h
  exact hb
theorem One.drop {B : Nat} {P Q : List Nat → World → Prop} {b : Nat} {d : DevD} {w : World} (h : One B (Both P Q) b d w) : One B P b d w := by
  obtain ⟨hz, F, G, h1, ⟨G1, G2, rfl, h2, _, _⟩, h3, h4⟩ := h
  exact ⟨hz, F, G1, h1, h2, fun k hk => ⟨(h3 k hk).1, fun hm => (h3 k hk).2 (List.mem_append_left _ hm)⟩, fun k hk => h4 k (List.mem_append_left _ hk)⟩
end Go.Proofs.YtphhnhldbajaoaaGreatDoor

namespace Go.Proofs.YtphhnhldbajaoaaGreatDoor
open Go.RowKit

set_option maxRecDepth 100000 in
theorem dlost_any (p : DevP) (d : DevD) (dev : Int) (w : World) (h : DevAt w p d) : Calls Tryz.prog 91 #[.pointer (some ⟨p.b, 0, none⟩), .int .i64 dev] w fun e w' => e = .returned (.bool (devLost d dev)) ∧ w = w' := by
  have H := Lib.hid h
  have c2 : w.cell? ⟨p.b, 2, none⟩ = some (.bool d.s0.lost) := h.box.cell 2 _ rfl
  have c5 : w.cell? ⟨p.b, 5, none⟩ = some (.bool d.s1.lost) := h.box.cell 5 _ rfl
  have n0 := h.n0.1
  have n1 := h.n1.1
  clear h
  by_cases hd : dev = 0 ∨ dev = 1
  · rcases hd with rfl | rfl
    · rw [show devLost d 0 = d.s0.lost from rfl]
      go_enter Tryz.func91, Tryz.ntmps91
      go_wp2_with fail
      refine (dsize_any p d 0 _ H.out).mono ?_
      rintro e w' ⟨rfl, rfl⟩
      rw [show devSize d 0 = d.s0.has.length from rfl]
      go_wp2
      go_ret
      exact ⟨rfl, rfl⟩
    · rw [show devLost d 1 = d.s1.lost from rfl]
      go_enter Tryz.func91, Tryz.ntmps91
      go_wp2_with fail
      refine (dsize_any p d 1 _ H.out).mono ?_
      rintro e w' ⟨rfl, rfl⟩
      rw [show devSize d 1 = d.s1.has.length from rfl]
      go_wp2
      go_ret
      exact ⟨rfl, rfl⟩
  · have e1 : devLost d dev = false := by unfold devLost; rw [if_neg (by omega), if_neg (by omega)]
    have e2 : devSize d dev = 0 := by unfold devSize; rw [if_neg (by omega), if_neg (by omega)]
    have E2 := Lib.hid e2
    rw [e1]
    clear e1 e2 hd
    go_enter Tryz.func91, Tryz.ntmps91
    go_wp2_with fail
    refine (dsize_any p d dev _ H.out).mono ?_
    rintro e w' ⟨rfl, rfl⟩
    rw [E2.out]
    go_wp2
    go_ret
    exact ⟨rfl, rfl⟩
end Go.Proofs.YtphhnhldbajaoaaGreatDoor

namespace Go.Proofs.YtphhnhldbajaoaaGreatDoor
open Go.RowKit Go.ChangeShapes Go.WideShapes Go.ChangeAt
section
variable {B : Nat} {P : List Nat → World → Prop} {b : Nat} {d : DevD} {w : World} (h : One B P b d w)
include h
theorem one_lost (dev : Int) : Calls Tryz.prog 91 #[.pointer (some ⟨b, 0, none⟩), .int .i64 dev] w fun e w' => e = .returned (.bool (devLost d dev)) ∧ w = w' := by
  obtain ⟨_, F, G, ⟨p, rfl, hd, rfl⟩, _⟩ := h
  exact dlost_any p d dev w hd
end
end Go.Proofs.YtphhnhldbajaoaaGreatDoor

namespace Go.Proofs.YtphhnhldbajaoaaGreatDoor
open Go.RowKit

structure PolD where
  mf : Bool
  mi : Bool
  small : Int
  arc : Int
  second : Int
def inB (n most : Int) : Bool := decide (0 ≤ n ∧ n ≤ most)
def okPol (p : PolD) : Bool := inB p.small 256 && inB p.arc 64 && inB p.second 508
def chkPol (p : PolD) : Int := if okPol p = true then 0 else 1
def wantF (p : PolD) (kind size : Int) : Bool := ((kind == 0) && p.mf) || ((kind == 1) && (p.small != 0) && decide (size ≤ p.small))
def wantB (p : PolD) (kind : Int) : Bool := (kind == 0) && p.mf && p.mi
theorem chk_01 (p : PolD) : chkPol p = 0 ∨ chkPol p = 1 := by unfold chkPol; split <;> simp
theorem class_within (n most : Int) (w : World) : Calls Tryz.prog 108 #[.int .i64 n, .int .i64 most] w fun e w' => e = .returned (.bool (inB n most)) ∧ w = w' := by
  by_cases h : 0 ≤ n
  · have e : inB n most = decide (n ≤ most) := by unfold inB; simp [h]
    rw [e]
    clear e
    go_enter Tryz.func108, Tryz.ntmps108
    go_wp2
    go_ret
    exact ⟨rfl, rfl⟩
  · have e : inB n most = false := by unfold inB; simp; omega
    rw [e]
    clear e
    go_enter Tryz.func108, Tryz.ntmps108
    go_wp2
    go_ret
    exact ⟨rfl, rfl⟩

set_option maxRecDepth 100000 in
theorem class_check (p : PolD) (w : World) : Calls Tryz.prog 66 #[.agg #[.bool p.mf, .bool p.mi, .int .i64 p.small, .int .i64 p.arc, .int .i64 p.second]] w fun e w' => e = .returned (.int .i64 (chkPol p)) ∧ Below w.heap.size w w' := by
  obtain ⟨mf, mi, s, a, c⟩ := p
  show Calls Tryz.prog _ #[.agg #[.bool mf, .bool mi, .int .i64 s, .int .i64 a, .int .i64 c]] w _
  have B := Box.new w 23 #[.bool mf, .bool mi, .int .i64 s, .int .i64 a, .int .i64 c]
  have L := (Below.refl w.heap.size w).alloc (Nat.le_refl _) (.cells #[.bool mf, .bool mi, .int .i64 s, .int .i64 a, .int .i64 c] 23 (0, 0))
  have k2 := B.cell 2 _ rfl
  have k3 := B.cell 3 _ rfl
  have k4 := B.cell 4 _ rfl
  have HL := Lib.hid L
  clear B L
  obtain ⟨r, hr⟩ : ∃ r, chkPol ⟨mf, mi, s, a, c⟩ = r := ⟨_, rfl⟩
  rw [hr]
  unfold chkPol okPol at hr
  simp only at hr
  have HR := Lib.hid hr
  clear hr
  cases h1 : inB s 256
  · go_enter Tryz.func66, Tryz.ntmps66
    go_wp2_with fail
    refine (class_within _ _ _).mono ?_
    rintro e w' ⟨rfl, rfl⟩
    rw [h1]
    go_wp2
    go_ret
    exact ⟨ret_int (by rw [← HR.out]; simp [*]), HL.out⟩
  cases h2 : inB a 64
  · go_enter Tryz.func66, Tryz.ntmps66
    go_wp2_with fail
    refine (class_within _ _ _).mono ?_
    rintro e w' ⟨rfl, rfl⟩
    rw [h1]
    go_wp2_with fail
    refine (class_within _ _ _).mono ?_
    rintro e w' ⟨rfl, rfl⟩
    rw [h2]
    go_wp2
    go_ret
    exact ⟨ret_int (by rw [← HR.out]; simp [*]), HL.out⟩
  cases h3 : inB c 508
  all_goals
    go_enter Tryz.func66, Tryz.ntmps66
    go_wp2_with fail
    refine (class_within _ _ _).mono ?_
    rintro e w' ⟨rfl, rfl⟩
    rw [h1]
    go_wp2_with fail
    refine (class_within _ _ _).mono ?_
    rintro e w' ⟨rfl, rfl⟩
    rw [h2]
    go_wp2_with fail
    refine (class_within _ _ _).mono ?_
    rintro e w' ⟨rfl, rfl⟩
    rw [h3]
    go_wp2
    go_ret
    exact ⟨ret_int (by rw [← HR.out]; simp [*]), HL.out⟩

end Go.Proofs.YtphhnhldbajaoaaGreatDoor

namespace Go.Proofs.YtphhnhldbajaoaaGreatDoor
open Go.RowKit

set_option maxRecDepth 100000 in
theorem wishes_any (p : PolD) (kind size : Int) (w : World) : Calls Tryz.prog 129 #[.agg #[.bool p.mf, .bool p.mi, .int .i64 p.small, .int .i64 p.arc, .int .i64 p.second], .int .i64 kind, .int .i64 size] w fun e w' => e = .returned (.tuple #[.bool (wantF p kind size), .bool (wantB p kind)]) ∧ Below w.heap.size w w' := by
  obtain ⟨mf, mi, s, a, c⟩ := p
  have B := Box.new w 23 #[.bool mf, .bool mi, .int .i64 s, .int .i64 a, .int .i64 c]
  have HL := Lib.hid ((Below.refl w.heap.size w).alloc (Nat.le_refl _) (.cells #[.bool mf, .bool mi, .int .i64 s, .int .i64 a, .int .i64 c] 23 (0, 0)))
  have HS := Lib.hid (size_alloc w (.cells #[.bool mf, .bool mi, .int .i64 s, .int .i64 a, .int .i64 c] 23 (0, 0)))
  have k0 := B.cell 0 _ rfl
  have k1 := B.cell 1 _ rfl
  have k2 := B.cell 2 _ rfl
  have k3 := B.cell 3 _ rfl
  have k4 := B.cell 4 _ rfl
  clear B
  obtain ⟨ra, hra⟩ : ∃ r, wantF ⟨mf, mi, s, a, c⟩ kind size = r := ⟨_, rfl⟩
  obtain ⟨rb, hrb⟩ : ∃ r, wantB ⟨mf, mi, s, a, c⟩ kind = r := ⟨_, rfl⟩
  rw [hra, hrb]
  unfold wantF at hra
  unfold wantB at hrb
  have HR := Lib.hid (And.intro hra hrb)
  clear hra hrb
  cases h0 : (kind == 0)
  · cases h1 : (kind == 1)
    · go_enter Tryz.func129, Tryz.ntmps129
      go_wp2
      go_ret2
      refine ⟨?_, HL.out⟩
      obtain ⟨e1, e2⟩ := HR.out
      rw [← e1, ← e2]
      simp [h0, h1]
    · cases h2 : (s != 0)
      · go_enter Tryz.func129, Tryz.ntmps129
        go_wp2
        go_ret2
        refine ⟨?_, HL.out⟩
        obtain ⟨e1, e2⟩ := HR.out
        rw [← e1, ← e2]
        simp [h0, h1, h2]
      · cases h3 : decide (size ≤ s)
        all_goals
          go_enter Tryz.func129, Tryz.ntmps129
          go_wp2
          go_ret2
          refine ⟨?_, HL.out⟩
          obtain ⟨e1, e2⟩ := HR.out
          rw [← e1, ← e2]
          simp [h0, h1, h2, h3]
  · have h1 : (kind == 1) = false := by have := eq_of_beq h0; subst this; rfl
    cases mf
    · go_enter Tryz.func129, Tryz.ntmps129
      go_wp2
      go_ret2
      refine ⟨?_, HL.out⟩
      obtain ⟨e1, e2⟩ := HR.out
      rw [← e1, ← e2]
      simp [h0, h1]
    · cases mi
      all_goals
        go_enter Tryz.func129, Tryz.ntmps129
        go_wp2
        go_ret2
        refine ⟨?_, HL.out⟩
        obtain ⟨e1, e2⟩ := HR.out
        rw [← e1, ← e2]
        simp [h0, h1]

end Go.Proofs.YtphhnhldbajaoaaGreatDoor

namespace Go.Proofs.YtphhnhldbajaoaaGreatDoor
open Go.RowKit
open Go.ChangeShapes Go.WideShapes Go.ChangeAt

def chooseP (p : PolD) (k s : Int) (l : List Int) : List Int × Int :=
  match l with
  | [x, y] =>
    if chkPol p = 0 ∧ (k = 0 ∨ k = 1) ∧ inB s 960 = true ∧ 0 ≤ x ∧ 0 ≤ y then
      (if wantF p k s = true ∧ 0 < y then (if wantB p k = true ∧ 0 < x then ([1, 0], 0) else ([1], 0)) else if 0 < x then ([0], 0) else ([], 6))
    else ([], 1)
  | _ => ([], 1)
theorem choose_bad {p : PolD} {k s : Int} {l : List Int} (h : ¬ (chkPol p = 0 ∧ (k = 0 ∨ k = 1) ∧ inB s 960 = true)) : chooseP p k s l = ([], 1) := by
  unfold chooseP
  split
  · rw [if_neg (by intro h'; exact h ⟨h'.1, h'.2.1, h'.2.2.1⟩)]
  · rfl
theorem choose_len {p : PolD} {k s : Int} {l : List Int} (h : l.length ≠ 2) : chooseP p k s l = ([], 1) := by
  unfold chooseP
  split
  · exact absurd rfl h
  · rfl
theorem choose_neg {p : PolD} {k s x y : Int} (h : ¬ (0 ≤ x ∧ 0 ≤ y)) : chooseP p k s [x, y] = ([], 1) := by
  unfold chooseP
  simp only
  rw [if_neg (by intro h'; exact h ⟨h'.2.2.2.1, h'.2.2.2.2⟩)]
theorem choose_good {p : PolD} {k s x y : Int} (h1 : chkPol p = 0) (h2 : k = 0 ∨ k = 1) (h3 : inB s 960 = true) (hx : 0 ≤ x) (hy : 0 ≤ y) :
    chooseP p k s [x, y] = (if wantF p k s = true ∧ 0 < y then (if wantB p k = true ∧ 0 < x then ([1, 0], 0) else ([1], 0)) else if 0 < x then ([0], 0) else ([], 6)) := by
  unfold chooseP
  simp only
  rw [if_pos ⟨h1, h2, h3, hx, hy⟩]
theorem wantB_le {p : PolD} {k s : Int} (h : wantF p k s = false) : wantB p k = false := by
  unfold wantF at h
  unfold wantB
  simp at h ⊢
  intro hk hm
  simp [hk, hm] at h

/-- What Choose tells: a slice of ints, an error. -/
def SlRes (n : Nat) (w : World) (l : List Int × Int) (e : Ending) (w' : World) : Prop :=
  ∃ a c, e = .returned (.tuple #[.slice a l.1.length c, .int .i64 l.2]) ∧ Sl w' (Value.int .i64) a l.1 ∧ Below n w w'
theorem SlRes.nil {n : Nat} {w w' : World} {r : List Int × Int} {er : Int} (h : r = ([], er)) (hb : Below n w w') : SlRes n w r (.returned (.tuple #[.slice none 0 0, .int .i64 er])) w' := by
  subst h
  exact ⟨none, 0, rfl, Sl.nil, hb⟩
theorem SlRes.one {n : Nat} {w v : World} {r : List Int × Int} {er x : Int} {t : TypeId} (h : r = ([x], er)) (hb : Below n w v) (hn : n ≤ v.heap.size) :
    SlRes n w r (.returned (.tuple #[.slice (some ⟨v.heap.size, 0, none⟩) 1 1, .int .i64 er])) (v.alloc (.cells #[.int .i64 x] t (0, 0))) := by
  subst h
  have B := Box.new v t #[.int .i64 x]
  refine ⟨_, 1, rfl, Sl.of fun i y hy => ?_, hb.alloc hn _⟩
  rw [add_plain]
  match i, hy with
  | 0, hy => simp at hy; subst hy; exact B.cell 0 _ rfl
theorem SlRes.two {n : Nat} {w v : World} {r : List Int × Int} {er x y : Int} {t : TypeId} (h : r = ([x, y], er)) (hb : Below n w v) (hn : n ≤ v.heap.size) :
    SlRes n w r (.returned (.tuple #[.slice (some ⟨v.heap.size, 0, none⟩) 2 2, .int .i64 er])) (v.alloc (.cells #[.int .i64 x, .int .i64 y] t (0, 0))) := by
  subst h
  have B := Box.new v t #[.int .i64 x, .int .i64 y]
  refine ⟨_, 2, rfl, Sl.of fun i z hz => ?_, hb.alloc hn _⟩
  rw [add_plain]
  match i, hz with
  | 0, hz => simp at hz; subst hz; exact B.cell 0 _ rfl
  | 1, hz => simp at hz; subst hz; exact B.cell 1 _ rfl
end Go.Proofs.YtphhnhldbajaoaaGreatDoor

namespace Go.Proofs.YtphhnhldbajaoaaGreatDoor
open Go.RowKit

end Go.Proofs.YtphhnhldbajaoaaGreatDoor

namespace Go.Proofs.YtphhnhldbajaoaaGreatDoor
open Go

section
variable {P : Program} {ops : Array Oper} {Q : Exit → Act → World → Prop}

/-- f operations, in whatever order, S all the while (it may come to say more); then L. -/
def wpX (P : Program) (ops : Array Oper) (Q : Exit → Act → World → Prop) (n : Nat) (L : Array Bool → Act → World → Prop) : Nat → (World → Prop) → Array Bool → Act → World → Prop
  | 0, _, listed, a, w => L listed a w
  | f + 1, S, listed, a, w =>
    Region.ready .any ops listed ≠ [] ∧ ∀ i ∈ Region.ready .any ops listed, i < n ∧ wpOp P ops (Calm Q) i (fun a' w' => ∃ S' : World → Prop, (∀ W, S' W → S W) ∧ S' w' ∧ wpX P ops Q n L f S' (listed.setIfInBounds i true) a' w') a w

theorem any_of_wpX {n g : Nat} {L : Array Bool → Act → World → Prop} (hL : ∀ listed a w, L listed a w → wpAny P .any ops Q g listed a w) :
    ∀ (f : Nat) (S : World → Prop) (listed : Array Bool) (a : Act) (w : World), wpX P ops Q n L f S listed a w → wpAny P .any ops Q (f + g) listed a w
  | 0, _, listed, a, w, h => by rw [Nat.zero_add]; exact hL _ _ _ h
  | f + 1, S, listed, a, w, h => by
    rw [show f + 1 + g = (f + g) + 1 by omega]
    exact ⟨fun h0 => absurd h0 h.1, fun i hi => wpOp_calm (wpOp_mono (fun a' w' ⟨S', _, _, h'⟩ => any_of_wpX hL f S' _ a' w' h') (h.2 i hi).2)⟩

theorem wpX_first {n i : Nat} {oi : Oper} {L : Array Bool → Act → World → Prop} (hi : ops[i]? = some oi) (hsel : ∀ (j : Nat) (o : Oper) cs b, ops[j]? = some o → o.op ≠ .select cs b)
    (hs : Region.sinkB .any ops n = true) (hc : Region.chainB .any ops n = true) (hn : n < ops.size) (hin : i < n)
    (hdone : ∀ listed a w, L listed a w → ∀ j ∈ Region.ready .any ops listed, n ≤ j) :
    ∀ (f : Nat) (S : World → Prop) (listed : Array Bool) (a : Act) (w : World) (v : Value), HeadInv .any ops n listed →
      (∀ j oj, ops[j]? = some oj → j ≠ i → listed.getD j true = false → (∀ e ∈ oj.after, Region.binds .any e = true → e.on ≠ i) → oi.apart ops oj = true) →
      i ∈ Region.ready .any ops listed → S w → (∀ W, S W → ∃ v', YieldsAt P ops W oi v' a ∧ a.put oi.dst v' = a.put oi.dst v) →
      wpX P ops Q n L f S (listed.setIfInBounds i true) (a.put oi.dst v) w → wpX P ops Q n L (f + 1) S listed a w := by
  intro f
  induction f with
  | zero =>
    intro S listed a w v inv _ hr hS hy H
    have hun := (mem_ready.1 hr).1
    refine ⟨fun h => (by rw [h] at hr; cases hr), fun j hj => ?_⟩
    have hjn : j < n := by
      rcases Nat.lt_or_ge j n with h | h
      · exact h
      · exact absurd hj (tail_waits hs hc hn inv _ i rfl hin hun j h)
    refine ⟨hjn, ?_⟩
    by_cases hji : j = i
    · subst hji
      obtain ⟨v', hy', he⟩ := hy w hS
      exact wpOp_of_stOp (fun _ h => h) (hy'.stOp hi (K := fun a' => ∃ S' : World → Prop, (∀ W, S' W → S W) ∧ S' w ∧ wpX P ops Q n L 0 S' (listed.setIfInBounds j true) a' w) ⟨S, fun _ h => h, hS, by rw [he]; exact H⟩)
    · have := hdone _ _ _ H j (ready_mono hj hji)
      omega
  | succ f ih =>
    intro S listed a w v inv hfree hr hS hy H
    have hun := (mem_ready.1 hr).1
    refine ⟨fun h => (by rw [h] at hr; cases hr), fun j hj => ?_⟩
    have hjn : j < n := by
      rcases Nat.lt_or_ge j n with h | h
      · exact h
      · exact absurd hj (tail_waits hs hc hn inv _ i rfl hin hun j h)
    refine ⟨hjn, ?_⟩
    by_cases hji : j = i
    · subst hji
      obtain ⟨v', hy', he⟩ := hy w hS
      exact wpOp_of_stOp (fun _ h => h) (hy'.stOp hi (K := fun a' => ∃ S' : World → Prop, (∀ W, S' W → S W) ∧ S' w ∧ wpX P ops Q n L (f + 1) S' (listed.setIfInBounds j true) a' w) ⟨S, fun _ h => h, hS, by rw [he]; exact H⟩)
    · have h1 := (H.2 j (ready_mono hj hji)).2
      obtain ⟨hjun, oj, hoj, hall⟩ := mem_ready.1 hj
      have hnot : ∀ e ∈ oj.after, Region.binds .any e = true → e.on ≠ i := fun e he hb heq => by
        have h1 := hall e he hb
        rw [heq, getD_both hun] at h1
        cases h1
      have h2 := wpOp_put hoj (hfree j oj hoj hji hjun hnot) (fun cs b => hsel i oi cs b hi) (fun cs b => hsel j oj cs b hoj) h1
      have hfree' : ∀ k ok, ops[k]? = some ok → k ≠ i → (listed.setIfInBounds j true).getD k true = false →
          (∀ e ∈ ok.after, Region.binds .any e = true → e.on ≠ i) → oi.apart ops ok = true := fun k ok hk hki hun hno => by
        refine hfree k ok hk hki ?_ hno
        by_cases hjk : j = k
        · subst hjk; exact hjun
        · rw [getD_set_ne true hjk] at hun; exact hun
      refine wpOp_mono (fun a' w' h3 => ?_) h2
      obtain ⟨⟨S', hm, hS', h4⟩, he, hw, hsz⟩ := h3
      refine ⟨S', hm, hS', ih S' (listed.setIfInBounds j true) a' w' v (inv.set hj hjn) hfree' (ready_mono hr (Ne.symm hji)) hS' (fun W hW => ?_) ?_⟩
      · obtain ⟨v', hy', hp⟩ := hy W (hm W hW)
        exact ⟨v', hy'.of_same he hw, put_same hsz hp⟩
      · rw [Array.setIfInBounds_comm _ _ hji]
        exact h4

/-- The schedule: which operation comes next, and whether it makes memory. -/
def wpSch (P : Program) (ops : Array Oper) (Q : Exit → Act → World → Prop) (Lq : Act → World → Prop) : List (Nat × Bool) → (World → Prop) → Act → World → Prop
  | [], _, a, w => Lq a w
  | (i, false) :: r, S, a, w => ∃ o a1, ops[i]? = some o ∧ (∀ W, S W → if Region.wanted o (yielded ops a.tmps) then o.still P a W (fun a' => a' = a1) else a.put o.dst undef = a1) ∧ wpSch P ops Q Lq r S a1 w
  | (i, true) :: r, S, a, w => wpOp P ops (Calm Q) i (fun a' w' => ∃ S' : World → Prop, (∀ W, S' W → S W) ∧ S' w' ∧ wpSch P ops Q Lq r S' a' w') a w
def schB (ops : Array Oper) (g n : Nat) : List (Nat × Bool) → Array Bool → Bool
  | [], listed => Region.seqB .any ops g n listed
  | (i, false) :: r, listed => (Region.ready .any ops listed).contains i && Region.free .any ops listed i && decide (i < n) && schB ops g n r (listed.setIfInBounds i true)
  | (i, true) :: r, listed => decide (Region.ready .any ops listed = [i]) && decide (i < n) && schB ops g n r (listed.setIfInBounds i true)
def schedB (ops : Array Oper) (n : Nat) (sch : List (Nat × Bool)) : Bool :=
  Region.noSelect ops && decide (n < ops.size) && Region.sinkB .any ops n && Region.chainB .any ops n && decide (sch.length = n) && schB ops (ops.size - n) n sch (Array.replicate ops.size false)

theorem wpX_of_sch {n g : Nat} {Lq : Act → World → Prop} (hsel : Region.noSelect ops = true) (hs : Region.sinkB .any ops n = true) (hc : Region.chainB .any ops n = true) (hn : n < ops.size) :
    ∀ (sch : List (Nat × Bool)) (S : World → Prop) (listed : Array Bool) (a : Act) (w : World), HeadInv .any ops n listed → S w → schB ops g n sch listed = true → wpSch P ops Q Lq sch S a w →
    wpX P ops Q n (fun listed' a' w' => Region.seqB .any ops g n listed' = true ∧ Lq a' w') sch.length S listed a w
  | [], _, listed, a, w, _, _, hB, h => ⟨hB, h⟩
  | (i, false) :: r, S, listed, a, w, inv, hS, hB, h => by
    rw [schB, Bool.and_eq_true, Bool.and_eq_true, Bool.and_eq_true] at hB
    obtain ⟨⟨⟨hr, hf⟩, hin⟩, hB'⟩ := hB
    have hr' : i ∈ Region.ready .any ops listed := by simpa using hr
    have hin' : i < n := of_decide_eq_true hin
    obtain ⟨o, a1, h0, hst, hK⟩ := h
    have hst' : ∀ W, S W → ∃ v', YieldsAt P ops W o v' a ∧ a.put o.dst v' = a1 := fun W hW => by
      have := hst W hW
      exact yieldsAt_of_stOp (i := i) h0 (by unfold stOp; simp only [h0]; exact this)
    obtain ⟨v, _, hv⟩ := hst' w hS
    subst hv
    exact wpX_first h0 (Region.noSelect_spec hsel) hs hc hn hin' (fun listed' a' w' hL => seqB_ready hL.1) r.length S listed a w v inv (Region.free_spec h0 hf) hr' hS hst'
      (wpX_of_sch hsel hs hc hn r S _ _ w (inv.set hr' hin') hS hB' hK)
  | (i, true) :: r, S, listed, a, w, inv, hS, hB, h => by
    rw [schB, Bool.and_eq_true, Bool.and_eq_true] at hB
    obtain ⟨⟨hr, hin⟩, hB'⟩ := hB
    have hr1 : Region.ready .any ops listed = [i] := of_decide_eq_true hr
    have hin' : i < n := of_decide_eq_true hin
    refine ⟨fun h => (by rw [hr1] at h; cases h), fun j hj => ?_⟩
    have hji : j = i := by rw [hr1] at hj; simpa using hj
    subst hji
    refine ⟨hin', ?_⟩
    have h' : wpOp P ops (Calm Q) j (fun a' w' => ∃ S' : World → Prop, (∀ W, S' W → S W) ∧ S' w' ∧ wpSch P ops Q Lq r S' a' w') a w := h
    refine wpOp_mono (fun a' w' ⟨S', hm, hS', h3⟩ => ⟨S', hm, hS', ?_⟩) h'
    exact wpX_of_sch hsel hs hc hn r S' _ a' w' (inv.set hj hin') hS' hB' h3

theorem wpSch_nil {Lq : Act → World → Prop} {S : World → Prop} {a : Act} {w : World} (h : Lq a w) : wpSch P ops Q Lq [] S a w := h
/-- An operation that only reads. -/
theorem wpSch_step {l : List Oper} {Lq : Act → World → Prop} {S : World → Prop} {i : Nat} {o : Oper} {r : List (Nat × Bool)} {a a1 : Act} {w : World} (hi : l[i]? = some o)
    (h : ∀ W, S W → ∀ K : Act → Prop, (∀ a', a' = a1 → K a') → if Region.wanted o (yielded l.toArray a.tmps) then o.still P a W K else K (a.put o.dst undef))
    (h2 : wpSch P l.toArray Q Lq r S a1 w) : wpSch P l.toArray Q Lq ((i, false) :: r) S a w :=
  ⟨o, a1, by simpa using hi, fun W hS => h W hS (fun a' => a' = a1) (fun _ h => h), h2⟩
/-- One that makes memory: S may say more behind it. -/
theorem wpSch_make {l : List Oper} {Lq : Act → World → Prop} {S : World → Prop} {i : Nat} {o : Oper} {r : List (Nat × Bool)} {a : Act} {w : World} (hi : l[i]? = some o)
    (h : ∀ K' : Act → World → Prop, (∀ a' w' (S' : World → Prop), (∀ W, S' W → S W) → S' w' → wpSch P l.toArray Q Lq r S' a' w' → K' a' w') → if Region.wanted o (yielded l.toArray a.tmps) then o.wp P a w K' (Calm Q) else K' (a.put o.dst undef) w) :
    wpSch P l.toArray Q Lq ((i, true) :: r) S a w :=
  wpOp_step hi (fun K' hK => h K' (fun a' w' S' h1 h2 h3 => hK a' w' ⟨S', h1, h2, h3⟩))
/-- The region by its schedule: n operations, and a tail in its order. -/
theorem wp_region_sched {id : Nat} {a : Act} {w : World} {l : List Oper} (S : World → Prop) (n : Nat) (sch : List (Nat × Bool)) (hm : P.follows .mixedOrders = true) (hB : schedB l.toArray n sch = true) (hS : S w.drew)
    (h : wpSch P l.toArray Q (fun a' w' => wpList P l.toArray Q (l.drop n) a' w') sch S a w.drew) : (Code.region id l.toArray true).wp P Q a w := by
  simp only [schedB, Bool.and_eq_true, decide_eq_true_eq] at hB
  obtain ⟨⟨⟨⟨⟨hsel, hn⟩, hs⟩, hc⟩, hlen⟩, hlex⟩ := hB
  have hn' : n < l.length := by simpa using hn
  have hdl : (l.drop n).length = l.toArray.size - n := by simp
  have inv0 : HeadInv .any l.toArray n (Array.replicate l.toArray.size false) :=
    ⟨by simp, fun j oj _ hl => (by rw [getD_replicate_false] at hl; cases hl), fun t _ ht => getD_in (by simpa using ht) (getD_replicate_false _ _)⟩
  have H := wpX_of_sch (Q := Q) (g := l.toArray.size - n) (Lq := fun a'' w'' => wpList P l.toArray Q (l.drop n) a'' w'') hsel hs hc hn sch S _ a w.drew inv0 hS hlex h
  refine wp_region_any hm ?_
  have := any_of_wpX (Q := Q) (g := l.toArray.size - n) (fun listed a' w' hL => by
    have := wpAny_of_seq (md := .any) (Q' := Q) (l.drop n) n listed a' w' (fun j => by simp [List.getElem?_drop]) (by rw [hdl]; exact hL.1) hL.2
    rwa [hdl] at this) _ _ _ _ _ H
  rw [hlen, show n + (l.toArray.size - n) = l.toArray.size by omega] at this
  exact this
end
end Go.Proofs.YtphhnhldbajaoaaGreatDoor
