/-
  Texts put together: DevLostF, DevOneL, BlkI.
-/
import Derived.Test.YtonkmffipjdhkaaDoorMg1
import Derived.Test.YtonkmffipjdhkaaDoorMg9
import Derived.Test.YtonkmffipjdhkaaDoorMg22
import Derived.Laws.ResultCell
import Derived.Deep.QuietTactic
import Derived.BigQuiet
namespace Go.Proofs.YtonkmffipjdhkaaDoor
open Go.RowKit

theorem dlost_nil (dev : Int) (w : World) : Calls Tryd.prog 31 #[.pointer none, .int .i64 dev] w fun e w' => e = .returned (.bool false) ∧ w = w' := by
  go_enter Tryd.func31, Tryd.ntmps31
  go_wp2_with fail
  refine (dsize_nil dev _).mono ?_
  rintro e w' ⟨rfl, rfl⟩
  go_wp2
  go_ret
  exact ⟨rfl, rfl⟩

set_option maxRecDepth 100000 in
theorem dlost_any (p : DevP) (d : DevD) (dev : Int) (w : World) (h : DevAt w p d) : Calls Tryd.prog 31 #[.pointer (some ⟨p.b, 0, none⟩), .int .i64 dev] w fun e w' => e = .returned (.bool (devLost d dev)) ∧ w = w' := by
  have H := Lib.hid h
  have c2 : w.cell? ⟨p.b, 2, none⟩ = some (.bool d.s0.lost) := h.box.cell 2 _ rfl
  have c5 : w.cell? ⟨p.b, 5, none⟩ = some (.bool d.s1.lost) := h.box.cell 5 _ rfl
  have n0 := h.n0.1
  have n1 := h.n1.1
  clear h
  by_cases hd : dev = 0 ∨ dev = 1
  · rcases hd with rfl | rfl
    · rw [show devLost d 0 = d.s0.lost from rfl]
      go_enter Tryd.func31, Tryd.ntmps31
      go_wp2_with fail
      refine (dsize_any p d 0 _ H.out).mono ?_
      rintro e w' ⟨rfl, rfl⟩
      rw [show devSize d 0 = d.s0.has.length from rfl]
      go_wp2
      go_ret
      exact ⟨rfl, rfl⟩
    · rw [show devLost d 1 = d.s1.lost from rfl]
      go_enter Tryd.func31, Tryd.ntmps31
      go_wp2_with fail
      refine (dsize_any p d 1 _ H.out).mono ?_
      rintro e w' ⟨rfl, rfl⟩
      rw [show devSize d 1 = d.s1.has.length from rfl]
      go_wp2
      go_ret
      exact ⟨rfl, rfl⟩
  · have e1 : devLost d dev = false := by unfold devLost; rw [if_neg (by omega), if_neg (by omega)]
    have e2 : devSize d dev = 0 := by unfold devSize; rw [if_neg (by omega), if_neg (by omega)]
    have E2 := Lib.hid e2
    rw [e1]
    clear e1 e2 hd
    go_enter Tryd.func31, Tryd.ntmps31
    go_wp2_with fail
    refine (dsize_any p d dev _ H.out).mono ?_
    rintro e w' ⟨rfl, rfl⟩
    rw [E2.out]
    go_wp2
    go_ret
    exact ⟨rfl, rfl⟩
end Go.Proofs.YtonkmffipjdhkaaDoor

namespace Go.Proofs.YtonkmffipjdhkaaDoor
open Go.RowKit Go.ChangeShapes Go.WideShapes Go.ChangeAt
section
variable {B : Nat} {P : List Nat → World → Prop} {b : Nat} {d : DevD} {w : World} (h : One B P b d w)
include h
theorem one_lost (dev : Int) : Calls Tryd.prog 31 #[.pointer (some ⟨b, 0, none⟩), .int .i64 dev] w fun e w' => e = .returned (.bool (devLost d dev)) ∧ w = w' := by
  obtain ⟨_, F, G, ⟨p, rfl, hd, rfl⟩, _⟩ := h
  exact dlost_any p d dev w hd
end
end Go.Proofs.YtonkmffipjdhkaaDoor

namespace Go.Proofs.YtonkmffipjdhkaaDoor
open Go.RowKit Go.ChangeShapes Go.WideShapes Go.ChangeAt

theorem sizePtr : (Tryd.prog.info? 25).map (·.size) = some 4 := by kernel_rfl
theorem results_cell_row_tmp2 {P : Program} {fn : Func} {p u : Tmp} {ty : TypeId} (h : fn.results = #[.cell p ty, .tmp u]) (tmps : Array Value) (w : World) (g : Nat) (t : TypeId) (cs : Array Value) (fr : Nat × Nat) (d : TypeDesc)
    (hp : tmps.getD p undef = .pointer (some ⟨g, 0, none⟩)) (hg : w.heap[g]? = some (.cells cs t fr))
    (hu : P.underlying ty = some d) (hd : (match d with | .struct _ | .array _ _ => true | _ => false) = true) (hi : (P.info? ty).map (·.size) = some cs.size) :
    (results fn tmps).run P w = .ok (.tuple #[.agg cs, tmps.getD u undef]) w := by
  rw [results_cell_tmp h, hp]
  simp [asAddr, run_loadVar_row w g t ty cs fr d hg hu hd hi]
def wrP (l : List (Int × Int)) (s : ByteArray) (birth : Int) : PtrD := ⟨l, s.size, birth, sha s⟩
def nilPV : Value := .agg #[.slice none 0 0, .int .i64 0, .int .i64 0, .string ⟨#[]⟩]
def farW (sz : Int → Nat) (l : Int × Int) : Bool := decide ((sz l.1 : Int) ≤ l.2)
theorem box4 {w : World} {g : Nat} {t : TypeId} {a b c d x y z u : Value} (h : Box w g t #[a, b, c, d]) : Box ((((w.setCell ⟨g, 0, none⟩ x).setCell ⟨g, 1, none⟩ y).setCell ⟨g, 2, none⟩ z).setCell ⟨g, 3, none⟩ u) g t #[x, y, z, u] := (((h.set 0 x).set 1 y).set 2 z).set 3 u
theorem chg4 {w : World} {g : Nat} {x y z u : Value} : Chg [g] w ((((w.setCell ⟨g, 0, none⟩ x).setCell ⟨g, 1, none⟩ y).setCell ⟨g, 2, none⟩ z).setCell ⟨g, 3, none⟩ u) := ((((Chg.refl [g] w).set g 0 x (.inl (by simp))).set g 1 y (.inl (by simp))).set g 2 z (.inl (by simp))).set g 3 u (.inl (by simp))
/-- What the devices say of their sizes, and of what is lost, as long as old memory stays. -/
def SzF (x : Option Addr) (sz : Int → Nat) (w : World) : Prop := ∀ W, Below w.heap.size w W → ∀ dev, Calls Tryd.prog 29 #[.pointer x, .int .i64 dev] W fun e W' => e = .returned (.int .i64 (sz dev : Nat)) ∧ W = W'
def LoF (x : Option Addr) (lo : Int → Bool) (w : World) : Prop := ∀ W, Below w.heap.size w W → ∀ dev, Calls Tryd.prog 31 #[.pointer x, .int .i64 dev] W fun e W' => e = .returned (.bool (lo dev)) ∧ W = W'
theorem one_szf {B : Nat} {P : List Nat → World → Prop} (hP : Fixed P) {b : Nat} {d : DevD} {w : World} (h : One B P b d w) : SzF (some ⟨b, 0, none⟩) (devSize d) w := fun _ hW dev => one_size (h.keep hP hW) dev
theorem one_lof {B : Nat} {P : List Nat → World → Prop} (hP : Fixed P) {b : Nat} {d : DevD} {w : World} (h : One B P b d w) : LoF (some ⟨b, 0, none⟩) (devLost d) w := fun _ hW dev => one_lost (h.keep hP hW) dev
theorem nil_szf (w : World) : SzF none (fun _ => 0) w := fun W _ dev => dsize_nil dev W
theorem SzF.keep {x : Option Addr} {sz : Int → Nat} {w w' : World} (h : SzF x sz w) (hb : Below w.heap.size w w') : SzF x sz w' := fun W hW dev => h W (hb.trans (hW.mono hb.size)) dev
theorem LoF.keep {x : Option Addr} {lo : Int → Bool} {w w' : World} (h : LoF x lo w) (hb : Below w.heap.size w w') : LoF x lo w' := fun W hW dev => h W (hb.trans (hW.mono hb.size)) dev
theorem of_w1 {x : Option Addr} {sz : Int → Nat} {C : Nat} {w : World} (hc : w.cell? ⟨C, 0, none⟩ = some (.pointer x)) (h : SzF x sz w) : OfB 28 C (farW sz) w := fun W hW l =>
  write1_any x sz l C W ((hW.cell (p := ⟨C, 0, none⟩) (lt_of_cell hc)).trans hc) (h.keep hW)
theorem of_w2 {x : Option Addr} {lo : Int → Bool} {C : Nat} {w : World} (hc : w.cell? ⟨C, 0, none⟩ = some (.pointer x)) (h : LoF x lo w) : OfB 30 C (fun l => lo l.1) w := fun W hW l =>
  write2_any x lo l C W ((hW.cell (p := ⟨C, 0, none⟩) (lt_of_cell hc)).trans hc) (h.keep hW)

set_option maxRecDepth 100000 in
set_option maxHeartbeats 1000000 in
theorem bwrite_bad (x : Option Addr) (a : Option Addr) (cap : Nat) (locs : List (Int × Int)) (s : ByteArray) (birth : Int) (w : World) (hl : locs.length ≤ 1000) (hs : SlP w a locs) (hz : s.size ≤ 140737488355328) (hK : Kt w) (hbad : badP (wrP locs s birth)) :
    Calls Tryd.prog 10 #[.pointer x, .slice a locs.length cap, .string s, .int .i64 birth] w fun e w' => e = .returned (.tuple #[nilPV, .int .i64 1]) ∧ Below w.heap.size w w' := by
  have HBAD := Lib.hid hbad
  clear hbad
  obtain ⟨Wa, hWa⟩ : ∃ Wa, Wa = (w.alloc (.cells #[.pointer x] 27)).alloc (.cells #[.slice none 0 0, .int .i64 0, .int .i64 0, .string ⟨#[]⟩] 25) := ⟨_, rfl⟩
  have hba : Below w.heap.size w Wa := by rw [hWa]; exact ((Below.refl _ w).alloc (Nat.le_refl _) _).alloc (by rw [size_alloc]; omega) _
  have hbd : Box Wa w.heap.size 27 #[.pointer x] := by rw [hWa]; exact (Box.new w _ _).alloc _
  have hbr : Box Wa (w.heap.size + 1) 25 #[.slice none 0 0, .int .i64 0, .int .i64 0, .string ⟨#[]⟩] := by
    rw [hWa]
    have := Box.new (w.alloc (.cells #[.pointer x] 27)) 25 #[.slice none 0 0, .int .i64 0, .int .i64 0, .string ⟨#[]⟩]
    rwa [size_alloc] at this
  have HBA := Lib.hid hba
  have HBD := Lib.hid hbd
  have HBR := Lib.hid hbr
  have HS := Lib.hid (hs.keep hba)
  have HK := Lib.hid hK
  have HP := Lib.hid hK.pos
  clear hba hbd hbr hs hK
  go_enter Tryd.func10, Tryd.ntmps10
  go_wp2_with fail
  rw [← hWa]
  clear hWa
  refine (clone_locs a cap locs Wa HS.out hl).mono ?_
  rintro e w1 ⟨a', c', rfl, hG, hb⟩
  have HB1 := Lib.hid (HBA.out.trans (hb.mono HBA.out.size))
  have HBD1 := Lib.hid (HBD.out.keep hb HBD.out.lt)
  have HBR1 := Lib.hid (HBR.out.keep hb HBR.out.lt)
  have HLG := Lib.hid hG
  have HBG1 := Lib.hid (HBA.out.size)
  clear hb hG HBA HBD HBR HS
  go_wp2_with fail
  refine (of_any s w1 (Nat.le_trans hz (by decide)) (HK.out.below HB1.out HP.out)).mono ?_
  rintro e w2 ⟨rfl, hb⟩
  have HB2 := Lib.hid (HB1.out.trans (hb.mono HB1.out.size))
  have HBD2 := Lib.hid (HBD1.out.keep hb HBD1.out.lt)
  have HBR2 := Lib.hid (HBR1.out.keep hb HBR1.out.lt)
  have HLG2 : Hid (∃ G, LocP a' locs G w2 ∧ ∀ k ∈ G, w.heap.size ≤ k) := by
    obtain ⟨G, h1, h2⟩ := HLG.out
    exact ⟨G, (fixed_loc a' locs).keep _ _ _ _ h1 (Chg.of (S := []) hb (Nat.le_refl _)) (fun _ _ h => by cases h), fun k hk => Nat.le_trans HBG1.out (h2 k hk)⟩
  clear hb HB1 HBD1 HBR1 HLG HBG1
  generalize hsh : sha s = sh at *
  have hx := (Below.refl w2.heap.size w2).alloc (Nat.le_refl _) (.cells #[.slice a' locs.length c', .int .i64 s.size, .int .i64 birth, .string sh] 25)
  have hp := Box.new w2 25 #[.slice a' locs.length c', .int .i64 s.size, .int .i64 birth, .string sh]
  have HB3 := Lib.hid (HB2.out.trans (hx.mono HB2.out.size))
  have HBD3 := Lib.hid (HBD2.out.keep hx HBD2.out.lt)
  have HBR3 := Lib.hid (HBR2.out.keep hx HBR2.out.lt)
  have HBP3 := Lib.hid hp
  have HNP : Hid (w.heap.size + 1 < w2.heap.size) := HBR2.out.lt
  have HLG3 : Hid (∃ G, LocP a' locs G (w2.alloc (.cells #[.slice a' locs.length c', .int .i64 s.size, .int .i64 birth, .string sh] 25)) ∧ ∀ k ∈ G, w.heap.size ≤ k) := by
    obtain ⟨G, h1, h2⟩ := HLG2.out
    exact ⟨G, (fixed_loc a' locs).keep _ _ _ _ h1 (Chg.of (S := []) hx (Nat.le_refl _)) (fun _ _ h => by cases h), h2⟩
  have HSH := Lib.hid hsh
  clear hx hp HB2 HBD2 HBR2 HLG2 hsh
  have k0 := HBP3.out.cell 0 _ rfl
  have k1 := HBP3.out.cell 1 _ rfl
  have k2 := HBP3.out.cell 2 _ rfl
  have k3 := HBP3.out.cell 3 _ rfl
  go_wp2_with fail
  generalize World.alloc w2 _ = w3 at *
  generalize w2.heap.size = np at *
  have hck := check_any a' c' ⟨locs, s.size, birth, sh⟩ w3 (by obtain ⟨G, h1, _⟩ := HLG3.out; exact h1.slP) hl
  unfold ptrV at hck
  refine hck.mono ?_
  rintro e w4 ⟨rfl, hb⟩
  have HB4 := Lib.hid (HB3.out.trans (hb.mono HB3.out.size))
  have HBD4 := Lib.hid (HBD3.out.keep hb HBD3.out.lt)
  have HBR4 := Lib.hid (HBR3.out.keep hb HBR3.out.lt)
  have HBP4 := Lib.hid (HBP3.out.keep hb HBP3.out.lt)
  have HLG4 : Hid (∃ G, LocP a' locs G w4 ∧ ∀ k ∈ G, w.heap.size ≤ k) := by
    obtain ⟨G, h1, h2⟩ := HLG3.out
    exact ⟨G, (fixed_loc a' locs).keep _ _ _ _ h1 (Chg.of (S := []) hb (Nat.le_refl _)) (fun _ _ h => by cases h), h2⟩
  clear hb hck k0 k1 k2 k3 HB3 HBD3 HBR3 HBP3 HLG3
  rw [show chkP ⟨locs, s.size, birth, sh⟩ = 1 from by rw [← HSH.out]; exact if_pos HBAD.out]
  have r0 := HBR4.out.cell 0 _ rfl
  have r1 := HBR4.out.cell 1 _ rfl
  have r2 := HBR4.out.cell 2 _ rfl
  have r3 := HBR4.out.cell 3 _ rfl
  have f0 := HBR4.out.free 0
  have f1 := HBR4.out.free 1
  have f2 := HBR4.out.free 2
  have f3 := HBR4.out.free 3
  go_wp2
  refine bodyPost_ret (results_cell_row_tmp2 rfl _ _ (w.heap.size + 1) 25 _ (0, 0) _ rfl (box4 HBR4.out) Tryd.underlying25 rfl sizePtr) rfl ?_
  exact ⟨rfl, HB4.out.trans (chg4.below HB4.out.size (by intro k hk; rw [List.mem_singleton] at hk; omega))⟩

set_option maxRecDepth 100000 in
set_option maxHeartbeats 1000000 in
theorem bwrite_far (x : Option Addr) (sz : Int → Nat) (a : Option Addr) (cap : Nat) (locs : List (Int × Int)) (s : ByteArray) (birth : Int) (w : World) (hl : locs.length ≤ 1000) (hs : SlP w a locs) (hz : s.size ≤ 140737488355328) (hK : Kt w) (hsz : SzF x sz w) (hbad : ¬ badP (wrP locs s birth)) (hfar : locs.any (farW sz) = true) :
    Calls Tryd.prog 10 #[.pointer x, .slice a locs.length cap, .string s, .int .i64 birth] w fun e w' => e = .returned (.tuple #[nilPV, .int .i64 1]) ∧ Below w.heap.size w w' := by
  have HBAD := Lib.hid hbad
  have HFAR := Lib.hid hfar
  have HSZ := Lib.hid hsz
  clear hbad hfar hsz
  obtain ⟨Wa, hWa⟩ : ∃ Wa, Wa = (w.alloc (.cells #[.pointer x] 27)).alloc (.cells #[.slice none 0 0, .int .i64 0, .int .i64 0, .string ⟨#[]⟩] 25) := ⟨_, rfl⟩
  have hba : Below w.heap.size w Wa := by rw [hWa]; exact ((Below.refl _ w).alloc (Nat.le_refl _) _).alloc (by rw [size_alloc]; omega) _
  have hbd : Box Wa w.heap.size 27 #[.pointer x] := by rw [hWa]; exact (Box.new w _ _).alloc _
  have hbr : Box Wa (w.heap.size + 1) 25 #[.slice none 0 0, .int .i64 0, .int .i64 0, .string ⟨#[]⟩] := by
    rw [hWa]
    have := Box.new (w.alloc (.cells #[.pointer x] 27)) 25 #[.slice none 0 0, .int .i64 0, .int .i64 0, .string ⟨#[]⟩]
    rwa [size_alloc] at this
  have HBA := Lib.hid hba
  have HBD := Lib.hid hbd
  have HBR := Lib.hid hbr
  have HS := Lib.hid (hs.keep hba)
  have HK := Lib.hid hK
  have HP := Lib.hid hK.pos
  clear hba hbd hbr hs hK
  go_enter Tryd.func10, Tryd.ntmps10
  go_wp2_with fail
  rw [← hWa]
  clear hWa
  refine (clone_locs a cap locs Wa HS.out hl).mono ?_
  rintro e w1 ⟨a', c', rfl, hG, hb⟩
  have HB1 := Lib.hid (HBA.out.trans (hb.mono HBA.out.size))
  have HBD1 := Lib.hid (HBD.out.keep hb HBD.out.lt)
  have HBR1 := Lib.hid (HBR.out.keep hb HBR.out.lt)
  have HLG := Lib.hid hG
  have HBG1 := Lib.hid (HBA.out.size)
  clear hb hG HBA HBD HBR HS
  go_wp2_with fail
  refine (of_any s w1 (Nat.le_trans hz (by decide)) (HK.out.below HB1.out HP.out)).mono ?_
  rintro e w2 ⟨rfl, hb⟩
  have HB2 := Lib.hid (HB1.out.trans (hb.mono HB1.out.size))
  have HBD2 := Lib.hid (HBD1.out.keep hb HBD1.out.lt)
  have HBR2 := Lib.hid (HBR1.out.keep hb HBR1.out.lt)
  have HLG2 : Hid (∃ G, LocP a' locs G w2 ∧ ∀ k ∈ G, w.heap.size ≤ k) := by
    obtain ⟨G, h1, h2⟩ := HLG.out
    exact ⟨G, (fixed_loc a' locs).keep _ _ _ _ h1 (Chg.of (S := []) hb (Nat.le_refl _)) (fun _ _ h => by cases h), fun k hk => Nat.le_trans HBG1.out (h2 k hk)⟩
  clear hb HB1 HBD1 HBR1 HLG HBG1
  generalize hsh : sha s = sh at *
  have hx := (Below.refl w2.heap.size w2).alloc (Nat.le_refl _) (.cells #[.slice a' locs.length c', .int .i64 s.size, .int .i64 birth, .string sh] 25)
  have hp := Box.new w2 25 #[.slice a' locs.length c', .int .i64 s.size, .int .i64 birth, .string sh]
  have HB3 := Lib.hid (HB2.out.trans (hx.mono HB2.out.size))
  have HBD3 := Lib.hid (HBD2.out.keep hx HBD2.out.lt)
  have HBR3 := Lib.hid (HBR2.out.keep hx HBR2.out.lt)
  have HBP3 := Lib.hid hp
  have HNP : Hid (w.heap.size + 1 < w2.heap.size) := HBR2.out.lt
  have HLG3 : Hid (∃ G, LocP a' locs G (w2.alloc (.cells #[.slice a' locs.length c', .int .i64 s.size, .int .i64 birth, .string sh] 25)) ∧ ∀ k ∈ G, w.heap.size ≤ k) := by
    obtain ⟨G, h1, h2⟩ := HLG2.out
    exact ⟨G, (fixed_loc a' locs).keep _ _ _ _ h1 (Chg.of (S := []) hx (Nat.le_refl _)) (fun _ _ h => by cases h), h2⟩
  have HSH := Lib.hid hsh
  clear hx hp HB2 HBD2 HBR2 HLG2 hsh
  have k0 := HBP3.out.cell 0 _ rfl
  have k1 := HBP3.out.cell 1 _ rfl
  have k2 := HBP3.out.cell 2 _ rfl
  have k3 := HBP3.out.cell 3 _ rfl
  go_wp2_with fail
  generalize World.alloc w2 _ = w3 at *
  generalize w2.heap.size = np at *
  have hck := check_any a' c' ⟨locs, s.size, birth, sh⟩ w3 (by obtain ⟨G, h1, _⟩ := HLG3.out; exact h1.slP) hl
  unfold ptrV at hck
  refine hck.mono ?_
  rintro e w4 ⟨rfl, hb⟩
  have HB4 := Lib.hid (HB3.out.trans (hb.mono HB3.out.size))
  have HBD4 := Lib.hid (HBD3.out.keep hb HBD3.out.lt)
  have HBR4 := Lib.hid (HBR3.out.keep hb HBR3.out.lt)
  have HBP4 := Lib.hid (HBP3.out.keep hb HBP3.out.lt)
  have HLG4 : Hid (∃ G, LocP a' locs G w4 ∧ ∀ k ∈ G, w.heap.size ≤ k) := by
    obtain ⟨G, h1, h2⟩ := HLG3.out
    exact ⟨G, (fixed_loc a' locs).keep _ _ _ _ h1 (Chg.of (S := []) hb (Nat.le_refl _)) (fun _ _ h => by cases h), h2⟩
  clear hb hck k0 k1 k2 k3 HB3 HBD3 HBR3 HBP3 HLG3
  rw [show chkP ⟨locs, s.size, birth, sh⟩ = 0 from by rw [← HSH.out]; exact if_neg HBAD.out]
  have k0 := HBP4.out.cell 0 _ rfl
  go_wp2_with fail
  refine (contains_w1 a' c' locs w.heap.size (farW sz) w4 (by obtain ⟨G, h1, _⟩ := HLG4.out; exact h1.slP) hl (of_w1 (HBD4.out.cell 0 _ rfl) (HSZ.out.keep HB4.out))).mono ?_
  rintro e w5 ⟨rfl, hb⟩
  rw [HFAR.out]
  have HB5 := Lib.hid (HB4.out.trans (hb.mono HB4.out.size))
  have HBR5 := Lib.hid (HBR4.out.keep hb HBR4.out.lt)
  clear hb k0
  have r0 := HBR5.out.cell 0 _ rfl
  have r1 := HBR5.out.cell 1 _ rfl
  have r2 := HBR5.out.cell 2 _ rfl
  have r3 := HBR5.out.cell 3 _ rfl
  have f0 := HBR5.out.free 0
  have f1 := HBR5.out.free 1
  have f2 := HBR5.out.free 2
  have f3 := HBR5.out.free 3
  go_wp2
  refine bodyPost_ret (results_cell_row_tmp2 rfl _ _ (w.heap.size + 1) 25 _ (0, 0) _ rfl (box4 HBR5.out) Tryd.underlying25 rfl sizePtr) rfl ?_
  exact ⟨rfl, HB5.out.trans (chg4.below HB5.out.size (by intro k hk; rw [List.mem_singleton] at hk; omega))⟩

set_option maxRecDepth 100000 in
set_option maxHeartbeats 1000000 in
theorem bwrite_gone (x : Option Addr) (sz : Int → Nat) (lo : Int → Bool) (a : Option Addr) (cap : Nat) (locs : List (Int × Int)) (s : ByteArray) (birth : Int) (w : World) (hl : locs.length ≤ 1000) (hs : SlP w a locs) (hz : s.size ≤ 140737488355328) (hK : Kt w) (hsz : SzF x sz w) (hlo : LoF x lo w) (hbad : ¬ badP (wrP locs s birth)) (hfar : locs.any (farW sz) = false) (hgone : locs.any (fun l => lo l.1) = true) :
    Calls Tryd.prog 10 #[.pointer x, .slice a locs.length cap, .string s, .int .i64 birth] w fun e w' => e = .returned (.tuple #[nilPV, .int .i64 5]) ∧ Below w.heap.size w w' := by
  have HBAD := Lib.hid hbad
  have HFAR := Lib.hid hfar
  have HSZ := Lib.hid hsz
  have HLO := Lib.hid hlo
  have HGN := Lib.hid hgone
  clear hbad hfar hsz hlo hgone
  obtain ⟨Wa, hWa⟩ : ∃ Wa, Wa = (w.alloc (.cells #[.pointer x] 27)).alloc (.cells #[.slice none 0 0, .int .i64 0, .int .i64 0, .string ⟨#[]⟩] 25) := ⟨_, rfl⟩
  have hba : Below w.heap.size w Wa := by rw [hWa]; exact ((Below.refl _ w).alloc (Nat.le_refl _) _).alloc (by rw [size_alloc]; omega) _
  have hbd : Box Wa w.heap.size 27 #[.pointer x] := by rw [hWa]; exact (Box.new w _ _).alloc _
  have hbr : Box Wa (w.heap.size + 1) 25 #[.slice none 0 0, .int .i64 0, .int .i64 0, .string ⟨#[]⟩] := by
    rw [hWa]
    have := Box.new (w.alloc (.cells #[.pointer x] 27)) 25 #[.slice none 0 0, .int .i64 0, .int .i64 0, .string ⟨#[]⟩]
    rwa [size_alloc] at this
  have HBA := Lib.hid hba
  have HBD := Lib.hid hbd
  have HBR := Lib.hid hbr
  have HS := Lib.hid (hs.keep hba)
  have HK := Lib.hid hK
  have HP := Lib.hid hK.pos
  clear hba hbd hbr hs hK
  go_enter Tryd.func10, Tryd.ntmps10
  go_wp2_with fail
  rw [← hWa]
  clear hWa
  refine (clone_locs a cap locs Wa HS.out hl).mono ?_
  rintro e w1 ⟨a', c', rfl, hG, hb⟩
  have HB1 := Lib.hid (HBA.out.trans (hb.mono HBA.out.size))
  have HBD1 := Lib.hid (HBD.out.keep hb HBD.out.lt)
  have HBR1 := Lib.hid (HBR.out.keep hb HBR.out.lt)
  have HLG := Lib.hid hG
  have HBG1 := Lib.hid (HBA.out.size)
  clear hb hG HBA HBD HBR HS
  go_wp2_with fail
  refine (of_any s w1 (Nat.le_trans hz (by decide)) (HK.out.below HB1.out HP.out)).mono ?_
  rintro e w2 ⟨rfl, hb⟩
  have HB2 := Lib.hid (HB1.out.trans (hb.mono HB1.out.size))
  have HBD2 := Lib.hid (HBD1.out.keep hb HBD1.out.lt)
  have HBR2 := Lib.hid (HBR1.out.keep hb HBR1.out.lt)
  have HLG2 : Hid (∃ G, LocP a' locs G w2 ∧ ∀ k ∈ G, w.heap.size ≤ k) := by
    obtain ⟨G, h1, h2⟩ := HLG.out
    exact ⟨G, (fixed_loc a' locs).keep _ _ _ _ h1 (Chg.of (S := []) hb (Nat.le_refl _)) (fun _ _ h => by cases h), fun k hk => Nat.le_trans HBG1.out (h2 k hk)⟩
  clear hb HB1 HBD1 HBR1 HLG HBG1
  generalize hsh : sha s = sh at *
  have hx := (Below.refl w2.heap.size w2).alloc (Nat.le_refl _) (.cells #[.slice a' locs.length c', .int .i64 s.size, .int .i64 birth, .string sh] 25)
  have hp := Box.new w2 25 #[.slice a' locs.length c', .int .i64 s.size, .int .i64 birth, .string sh]
  have HB3 := Lib.hid (HB2.out.trans (hx.mono HB2.out.size))
  have HBD3 := Lib.hid (HBD2.out.keep hx HBD2.out.lt)
  have HBR3 := Lib.hid (HBR2.out.keep hx HBR2.out.lt)
  have HBP3 := Lib.hid hp
  have HNP : Hid (w.heap.size + 1 < w2.heap.size) := HBR2.out.lt
  have HLG3 : Hid (∃ G, LocP a' locs G (w2.alloc (.cells #[.slice a' locs.length c', .int .i64 s.size, .int .i64 birth, .string sh] 25)) ∧ ∀ k ∈ G, w.heap.size ≤ k) := by
    obtain ⟨G, h1, h2⟩ := HLG2.out
    exact ⟨G, (fixed_loc a' locs).keep _ _ _ _ h1 (Chg.of (S := []) hx (Nat.le_refl _)) (fun _ _ h => by cases h), h2⟩
  have HSH := Lib.hid hsh
  clear hx hp HB2 HBD2 HBR2 HLG2 hsh
  have k0 := HBP3.out.cell 0 _ rfl
  have k1 := HBP3.out.cell 1 _ rfl
  have k2 := HBP3.out.cell 2 _ rfl
  have k3 := HBP3.out.cell 3 _ rfl
  go_wp2_with fail
  generalize World.alloc w2 _ = w3 at *
  generalize w2.heap.size = np at *
  have hck := check_any a' c' ⟨locs, s.size, birth, sh⟩ w3 (by obtain ⟨G, h1, _⟩ := HLG3.out; exact h1.slP) hl
  unfold ptrV at hck
  refine hck.mono ?_
  rintro e w4 ⟨rfl, hb⟩
  have HB4 := Lib.hid (HB3.out.trans (hb.mono HB3.out.size))
  have HBD4 := Lib.hid (HBD3.out.keep hb HBD3.out.lt)
  have HBR4 := Lib.hid (HBR3.out.keep hb HBR3.out.lt)
  have HBP4 := Lib.hid (HBP3.out.keep hb HBP3.out.lt)
  have HLG4 : Hid (∃ G, LocP a' locs G w4 ∧ ∀ k ∈ G, w.heap.size ≤ k) := by
    obtain ⟨G, h1, h2⟩ := HLG3.out
    exact ⟨G, (fixed_loc a' locs).keep _ _ _ _ h1 (Chg.of (S := []) hb (Nat.le_refl _)) (fun _ _ h => by cases h), h2⟩
  clear hb hck k0 k1 k2 k3 HB3 HBD3 HBR3 HBP3 HLG3
  rw [show chkP ⟨locs, s.size, birth, sh⟩ = 0 from by rw [← HSH.out]; exact if_neg HBAD.out]
  have k0 := HBP4.out.cell 0 _ rfl
  go_wp2_with fail
  refine (contains_w1 a' c' locs w.heap.size (farW sz) w4 (by obtain ⟨G, h1, _⟩ := HLG4.out; exact h1.slP) hl (of_w1 (HBD4.out.cell 0 _ rfl) (HSZ.out.keep HB4.out))).mono ?_
  rintro e w5 ⟨rfl, hb⟩
  rw [HFAR.out]
  have HB5 := Lib.hid (HB4.out.trans (hb.mono HB4.out.size))
  have HBD5 := Lib.hid (HBD4.out.keep hb HBD4.out.lt)
  have HBR5 := Lib.hid (HBR4.out.keep hb HBR4.out.lt)
  have HBP5 := Lib.hid (HBP4.out.keep hb HBP4.out.lt)
  have HLS5 : Hid (SlP w5 a' locs) := by obtain ⟨G, h1, _⟩ := HLG4.out; exact h1.slP.keep hb
  clear hb k0
  have k0 := HBP5.out.cell 0 _ rfl
  go_wp2_with fail
  refine (contains_w2 a' c' locs w.heap.size (fun l => lo l.1) w5 HLS5.out hl (of_w2 (HBD5.out.cell 0 _ rfl) (HLO.out.keep HB5.out))).mono ?_
  rintro e w6 ⟨rfl, hb⟩
  rw [HGN.out]
  have HB6 := Lib.hid (HB5.out.trans (hb.mono HB5.out.size))
  have HBR6 := Lib.hid (HBR5.out.keep hb HBR5.out.lt)
  clear hb k0
  have r0 := HBR6.out.cell 0 _ rfl
  have r1 := HBR6.out.cell 1 _ rfl
  have r2 := HBR6.out.cell 2 _ rfl
  have r3 := HBR6.out.cell 3 _ rfl
  have f0 := HBR6.out.free 0
  have f1 := HBR6.out.free 1
  have f2 := HBR6.out.free 2
  have f3 := HBR6.out.free 3
  go_wp2
  refine bodyPost_ret (results_cell_row_tmp2 rfl _ _ (w.heap.size + 1) 25 _ (0, 0) _ rfl (box4 HBR6.out) Tryd.underlying25 rfl sizePtr) rfl ?_
  exact ⟨rfl, HB6.out.trans (chg4.below HB6.out.size (by intro k hk; rw [List.mem_singleton] at hk; omega))⟩
end Go.Proofs.YtonkmffipjdhkaaDoor
