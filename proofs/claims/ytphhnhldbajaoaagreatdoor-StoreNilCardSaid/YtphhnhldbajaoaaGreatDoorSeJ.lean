/-
  Package second: Feed.
-/
import Derived.Test.YtphhnhldbajaoaaGreatDoorMg25
namespace Go.Proofs.YtphhnhldbajaoaaGreatDoor
open Go Go.RowKit Go.ChangeShapes Go.WideShapes Go.ChangeAt

/-- May it be fed? -/
def mayF (key load : ByteArray) : Prop := 1 ≤ key.size ∧ key.size ≤ 60 ∧ load.size ≤ 960
instance (key load : ByteArray) : Decidable (mayF key load) := by unfold mayF; infer_instance
def dropX (x : SecD) (at' : Int) : SecD := { x with e := forgetS x.e at' }
def setX (x : SecD) (at' : Int) (y : CgE) : SecD := { x with e := putS x.e at' y }
def handX (x : SecD) : SecD := { x with hand := (x.hand + 1) % roomN x.n }
def flushD (d : DevD) : DevD := endD d d.waits
def atX (x : SecD) : Int := ((secN x.f x.hand : Nat) : Int)
def newE (x : SecD) (key load : ByteArray) : CgE := ⟨key, sha load, (load.size : Int), atX x⟩
/-- The devices ahead of the second log, and the cache. -/
def midD (d : DevD) (x : SecD) (load : ByteArray) : DevD := flushD (writeD (flushD (tellX d (dropX x (atX x)))) (1, atX x) load)
def midX (x : SecD) (key load : ByteArray) : SecD := setX (nextN (dropX x (atX x))) (atX x) (newE x key load)
def putD' (d : DevD) (x : SecD) (key load : ByteArray) : DevD := tellX (midD d x load) (midX x key load)
def putX (x : SecD) (key load : ByteArray) : SecD := handX (nextN (midX x key load))
def feedX (d : DevD) (x : SecD) (key load : ByteArray) : Bool × DevD × SecD :=
  if ¬ mayF key load ∨ devLost d 1 = true then (false, d, x) else if (entOf x key).isSome = true then (true, d, x) else if 1099511627774 < x.num then (false, d, x) else (true, putD' d x key load, putX x key load)
theorem feedX_no {d : DevD} {x : SecD} {key load : ByteArray} (h : ¬ mayF key load ∨ devLost d 1 = true) : feedX d x key load = (false, d, x) := if_pos h
theorem feedX_has {d : DevD} {x : SecD} {key load : ByteArray} (h : ¬ (¬ mayF key load ∨ devLost d 1 = true)) (h2 : (entOf x key).isSome = true) : feedX d x key load = (true, d, x) := by unfold feedX; rw [if_neg h, if_pos h2]
theorem feedX_far {d : DevD} {x : SecD} {key load : ByteArray} (h : ¬ (¬ mayF key load ∨ devLost d 1 = true)) (h2 : ¬ (entOf x key).isSome = true) (h3 : 1099511627774 < x.num) : feedX d x key load = (false, d, x) := by unfold feedX; rw [if_neg h, if_neg h2, if_pos h3]
theorem feedX_put {d : DevD} {x : SecD} {key load : ByteArray} (h : ¬ (¬ mayF key load ∨ devLost d 1 = true)) (h2 : ¬ (entOf x key).isSome = true) (h3 : ¬ 1099511627774 < x.num) : feedX d x key load = (true, putD' d x key load, putX x key load) := by unfold feedX; rw [if_neg h, if_neg h2, if_neg h3]
theorem hand_facts {h r : Nat} (hh : h ≤ 600) (hr : 1 ≤ r) (hr2 : r ≤ 600) : wrap64 ((h : Int) + 1) = ((h + 1 : Nat) : Int) ∧ IntKind.i64.wrap ((h : Int) + 1) = ((h + 1 : Nat) : Int) ∧
    Int.tmod ((h : Int) + 1) (r : Int) = (((h + 1) % r : Nat) : Int) ∧ wrap64 (((h + 1) % r : Nat) : Int) = (((h + 1) % r : Nat) : Int) ∧ IntKind.i64.wrap (((h + 1) % r : Nat) : Int) = (((h + 1) % r : Nat) : Int) ∧ ¬ ((r : Int) = 0) ∧ ((r : Int) == 0) = false := by
  have hm : (h + 1) % r < r := Nat.mod_lt _ (by omega)
  have e : ((h : Int) + 1) = ((h + 1 : Nat) : Int) := rfl
  have t : Int.tmod ((h : Int) + 1) (r : Int) = (((h + 1) % r : Nat) : Int) := by
    rw [Int.tmod_eq_emod_of_nonneg (by omega), e]
    exact (Int.natCast_emod _ _).symm
  refine ⟨IntWalk.wrap64_in _ (by omega), IntWalk.i64_in _ ⟨by omega, by omega⟩, t, IntWalk.wrap64_in _ (by omega), IntWalk.i64_in _ ⟨by omega, by omega⟩, by omega, ?_⟩
  rw [beq_eq_false_iff_ne]
  omega
theorem waits_flush (d : DevD) : (flushD d).waits.length = 0 := by
  rfl
theorem waits_write (d : DevD) (l : Int × Int) (t : ByteArray) : (writeD d l t).waits.length ≤ d.waits.length + 1 := by
  unfold writeD
  split <;> simp

section
variable {B : Nat} {P : List Nat → World → Prop} (hP : Fixed P) {b s : Nat} {d : DevD} {x : SecD} {w : World} (h : One B (Both P (ScF s b x)) b d w) (hx : x.f ≤ 512) (hn : x.n ≤ 512)
include hP h hx hn

set_option maxRecDepth 100000 in
set_option maxHeartbeats 4000000 in
theorem feed_any (h2n : 2 ≤ x.n) (hK : Kt w) (hB : 0 < B) (hh : x.hand ≤ 512) (hw : d.waits.length ≤ 80000) (hl : x.e.length ≤ 10000) (key load : ByteArray) :
    Calls Tryz.prog 88 #[.pointer (some ⟨s, 0, none⟩), .string key, .string load] w fun e w' => e = .returned (.bool (feedX d x key load).1) ∧ One B (Both P (ScF s b (feedX d x key load).2.2)) b (feedX d x key load).2.1 w' ∧ Below B w w' := by
  obtain ⟨m, hs, hBs, hBm, hto⟩ := h.secE hP
  have HBW : Hid (B ≤ w.heap.size) := h.1
  have HS := Lib.hid hs
  have HO := Lib.hid h
  have HX := Lib.hid hx
  have HN := Lib.hid hn
  have HN2 := Lib.hid h2n
  have HK := Lib.hid hK
  have HBP := Lib.hid hB
  have HP := Lib.hid hP
  have HFX := Lib.hid (fun y => fixed_both hP (fixed_sc s b y))
  have HTO := Lib.hid hto
  have HW := Lib.hid hw
  have HH := Lib.hid hh
  have HL := Lib.hid hl
  have HRM : Hid (1 ≤ roomN x.n ∧ roomN x.n ≤ 512) := ⟨room_pos h2n, Nat.le_trans (room_le _) hn⟩
  obtain ⟨rm, hrm⟩ : ∃ rm, rm = roomN x.n := ⟨_, rfl⟩
  have r0 : ((rm : Int) == 0) = false := by
    rw [beq_eq_false_iff_ne]
    have := HRM.out
    rw [← hrm] at this
    omega
  have HRR := Lib.hid hrm
  clear h hP hs hx hn hK hto hB hw hh hl h2n hrm
  go_enter Tryz.func88, Tryz.ntmps88
  go_wp2_with fail
  refine (room_any s b m x _ HS.out.box HN.out).mono ?_
  rintro e w1 ⟨rfl, hb⟩
  rw [← HRR.out]
  have HS1 := Lib.hid (HS.out.keep hb)
  have HO1 := Lib.hid (HO.out.keep (HFX.out x) hb)
  have HW1 := Lib.hid hb
  clear hb HS HO
  obtain ⟨mf, hmf⟩ : ∃ mf, mf = decide (mayF key load) := ⟨_, rfl⟩
  have HMF := Lib.hid hmf
  have hmc := mayfeed_any w1 key load
  rw [show decide (1 ≤ key.size ∧ key.size ≤ 60 ∧ load.size ≤ 960) = mf from hmf.symm] at hmc
  have HMC := Lib.hid hmc
  clear hmf hmc
  go_wp2_with fail
  refine HMC.out.mono ?_
  rintro e w1' ⟨rfl, rfl⟩
  have k0 : w1.cell? ⟨s, 0, none⟩ = some (.pointer (some ⟨b, 0, none⟩)) := HS1.out.box.cell 0 _ rfl
  cases mf with
  | false =>
    have HR := Lib.hid (feedX_no (d := d) (x := x) (key := key) (load := load) (.inl (by have := HMF.out; simpa using this.symm)))
    go_wp2
    go_ret
    exact ⟨by rw [HR.out]; rfl, by rw [HR.out]; exact HO1.out, HW1.out.mono HBW.out⟩
  | true =>
    have HMAY : Hid (mayF key load) := by
      show mayF key load
      have := HMF.out
      simpa using this.symm
    go_wp2_with fail
    refine (one_lost HO1.out 1).mono ?_
    rintro e w1' ⟨rfl, rfl⟩
    cases hl : devLost d 1 with
    | true =>
      have HR := Lib.hid (feedX_no (d := d) (x := x) (key := key) (load := load) (.inr hl))
      clear hl
      go_wp2
      go_ret
      exact ⟨by rw [HR.out]; rfl, by rw [HR.out]; exact HO1.out, HW1.out.mono HBW.out⟩
    | false =>
      have HG : Hid (¬ (¬ mayF key load ∨ devLost d 1 = true)) := fun h => h.elim (fun h => h HMAY.out) (fun h => by rw [hl] at h; cases h)
      clear hl
      go_wp2_with fail
      refine (entryof_any s b m x key _ HS1.out HX.out HN.out).mono ?_
      rintro e w2 ⟨rfl, hb⟩
      have HS2 := Lib.hid (HS1.out.keep hb)
      have HO2 := Lib.hid (HO1.out.keep (HFX.out x) hb)
      have HW2 := Lib.hid (HW1.out.trans (hb.mono HW1.out.size))
      clear hb HS1 HO1 HW1 k0
      obtain ⟨y, hy⟩ : ∃ y, y = (entOf x key).getD noE := ⟨_, rfl⟩
      rw [← hy]
      clear hy
      cases hi : (entOf x key).isSome with
      | true =>
        have HR := Lib.hid (feedX_has (d := d) (x := x) (key := key) (load := load) HG.out hi)
        have hal := (Below.refl w2.heap.size w2).alloc (Nat.le_refl _) (.cells (cgA y) 170)
        have HO3 := Lib.hid (HO2.out.keep (HFX.out x) hal)
        have HW3 := Lib.hid (HW2.out.trans (hal.mono HW2.out.size))
        clear hi hal
        go_wp2
        go_ret
        exact ⟨by rw [HR.out]; rfl, by rw [HR.out]; exact HO3.out, HW3.out.mono HBW.out⟩
      | false =>
        have HNI : Hid (¬ (entOf x key).isSome = true) := by show ¬ _; rw [hi]; simp
        have hal := (Below.refl w2.heap.size w2).alloc (Nat.le_refl _) (.cells (cgA y) 170)
        have HO3 := Lib.hid (HO2.out.keep (HFX.out x) hal)
        have HS3 := Lib.hid (HS2.out.keep hal)
        have HW3 := Lib.hid (HW2.out.trans (hal.mono HW2.out.size))
        clear hi hal HO2 HS2 HW2
        have e4 := HS3.out.box.cell 4 _ rfl
        have e5 := HS3.out.box.cell 5 _ rfl
        have e3 := HS3.out.box.cell 3 _ rfl
        by_cases hfar : 1099511627774 < x.num
        · have HR := Lib.hid (feedX_far (d := d) (x := x) (key := key) (load := load) HG.out HNI.out hfar)
          have d3 : (1099511627774 : Int) < (x.num : Int) := by omega
          clear hfar
          go_wp2
          go_ret
          exact ⟨by rw [HR.out]; rfl, by rw [HR.out]; exact HO3.out, HW3.out.mono HBW.out⟩
        · have HR := Lib.hid (feedX_put (d := d) (x := x) (key := key) (load := load) HG.out HNI.out hfar)
          have d3 : ¬ (1099511627774 : Int) < (x.num : Int) := by omega
          have HQ : Hid (x.num ≤ 1099511627774) := by show _ ≤ _; omega
          clear hfar
          go_wp2_with fail
          generalize World.alloc w2 _ = w3 at *
          refine (sector_any s b m x _ x.hand HS3.out.box HX.out (by have := HH.out; omega)).mono ?_
          rintro e w3' ⟨rfl, rfl⟩
          obtain ⟨at', hat⟩ : ∃ at', at' = atX x := ⟨_, rfl⟩
          have HAT := Lib.hid hat
          have HAW : Hid ((Lit.int .i64 at').wf = true) := by
            show _ = _
            rw [hat]
            exact nat_wf (k := secN x.f x.hand) (by have := HX.out; have := HH.out; unfold secN; omega)
          rw [show (((secN x.f x.hand : Nat)) : Int) = at' from hat.symm]
          obtain ⟨D, hown, hDI⟩ := HS3.out.map
          have HDI := Lib.hid hDI
          clear hat hDI e4 e5 d3
          go_wp2_with (first
            | (at_delete; refine wpList_delete_own _ rfl _ _ 156 3 rfl 170 keyedY Tryz.underlying156 _ m x.e.length D rfl hown _ _ rfl (keyOfY HAW.out) ?_; intro w4 hown4 hturn4)
            | fail)
          have hO4 := hown4
          have hC4 : Chg [m] w3 w4 := Chg.only hturn4.grown
          have hT4 : Maps.Tidy D := hown.tidy keyedY
          have hmap : EnAt w4 m (forgetS x.e at') := by
            refine ⟨_, ?_, HDI.out.del hT4 at'⟩
            have := sowns_tight hO4
            rw [(HDI.out.del hT4 at').size] at this
            exact this
          have hbox := HS3.out.box.of ((hC4.block s HS3.out.box.lt (by simpa using HS3.out.ne)))
          obtain ⟨hone, hbel⟩ := HTO.out w4 (dropX x at') ((Chg.of HW3.out (Nat.le_refl _)).trans (hC4.mono (by simp))) ⟨hbox, hmap, HS3.out.ne⟩
          have HO4 := Lib.hid hone
          have HB4 := Lib.hid hbel
          have HK4 := Lib.hid (HK.out.below hbel HBP.out)
          clear hown hown4 hturn4 hO4 hC4 hT4 hmap hbox hone hbel HDI HTO HS3 HW3 e3 HO3
          have HWL := Lib.hid (writelog_any HP.out HO4.out HX.out HN.out HK4.out HBP.out HH.out (by have := HQ.out; show x.num ≤ _; omega) (by have := HW.out; omega))
          refine HWL.out.mono ?_
          rintro e w5 ⟨rfl, ho5, hb5⟩
          have HO5 := Lib.hid ho5
          have HB5 := Lib.hid (HB4.out.trans hb5)
          obtain ⟨m5, hs5, _, _, _⟩ := ho5.secE HP.out
          have g0 : w5.cell? ⟨s, 0, none⟩ = some (.pointer (some ⟨b, 0, none⟩)) := hs5.box.cell 0 _ rfl
          obtain ⟨d1, hd1⟩ : ∃ d1, d1 = tellX d (dropX x at') := ⟨_, rfl⟩
          rw [← hd1] at HO5
          have HD1 : Hid (d1 = tellX d (dropX x at') ∧ d1.waits.length ≤ 80001) := ⟨hd1, by
            rw [hd1]
            have := HW.out
            exact Nat.le_trans (waits_write _ _ _) (by omega)⟩
          clear ho5 hb5 hs5 HO4 HB4 HK4 HWL hd1
          have HFL := Lib.hid (one_flush (HFX.out (nextN (dropX x at'))) HO5.out (by have := HD1.out.2; omega))
          go_wp2_with fail
          refine HFL.out.mono ?_
          rintro e w6 ⟨rfl, ho6, hb6⟩
          have HO6 := Lib.hid ho6
          have HB6 := Lib.hid (HB5.out.trans hb6)
          obtain ⟨m6, hs6, _, _, _⟩ := ho6.secE HP.out
          have HS6 := Lib.hid hs6
          have g0' : w6.cell? ⟨s, 0, none⟩ = some (.pointer (some ⟨b, 0, none⟩)) := hs6.box.cell 0 _ rfl
          clear ho6 hb6 hs6 HO5 HB5 HFL g0
          go_wp2_with fail
          refine wp_region_tree (fun W => W.cell? ⟨s, 0, none⟩ = some (.pointer (some ⟨b, 0, none⟩))) 7 (.quiet 0 (.quiet 1 (.quiet 2 (.quiet 3 (.quiet 4 (.quiet 6 (.make 5 .nil))))))) (by kernel_rfl) (by kernel_rfl) g0' ?_
          simp only [List.drop_succ_cons, List.drop_zero]
          iterate 6 (apply wpTr_step rfl; (intro W hS K hK; go_simp; exact hK _ rfl))
          refine wpTr_make rfl (fun K' hK => ?_)
          go_simp
          refine (fast_any _ _).mono ?_
          rintro e w7 ⟨rfl, hb⟩
          have hb7 : Below w6.heap.size w6 w7 := (Below.refl _ w6).drew.trans hb
          have HS7 := Lib.hid (HS6.out.keep hb7)
          have HO7 := Lib.hid (HO6.out.keep (HFX.out _) hb7)
          have HB7 := Lib.hid (HB6.out.trans (hb7.mono HO6.out.1))
          refine hK _ _ _ (fun _ h => h) (HS7.out.box.cell 0 _ rfl) ?_
          clear hK K' hb hb7 HS6 HO6 HB6 g0'
          refine wpTr_nil ?_
          have HWR := Lib.hid (one_write (HFX.out _) HO7.out (1, at') load (by have := waits_flush d1; unfold flushD at this; omega))
          unfold locV
          unfold locV at HWR
          go_wp2_with fail
          refine HWR.out.mono ?_
          rintro e w8 ⟨rfl, ho8, hb8⟩
          have HO8 := Lib.hid ho8
          have HB8 := Lib.hid (HB7.out.trans hb8)
          obtain ⟨m8, hs8, _, _, _⟩ := ho8.secE HP.out
          have g0 : w8.cell? ⟨s, 0, none⟩ = some (.pointer (some ⟨b, 0, none⟩)) := hs8.box.cell 0 _ rfl
          clear ho8 hb8 hs8 HO7 HB7 HWR HS7
          have HFL := Lib.hid (one_flush (HFX.out (nextN (dropX x at'))) HO8.out (by have h1 := waits_flush d1; unfold flushD at h1; have := waits_write (endD d1 d1.waits) (1, at') load; omega))
          go_wp2_with fail
          refine HFL.out.mono ?_
          rintro e w9 ⟨rfl, ho9, hb9⟩
          obtain ⟨d2, hd2⟩ : ∃ d2, d2 = midD d x load := ⟨_, rfl⟩
          rw [show endD (writeD (endD d1 d1.waits) (1, at') load) (writeD (endD d1 d1.waits) (1, at') load).waits = d2 from by rw [hd2, HD1.out.1, HAT.out]; rfl] at ho9
          have HO9 := Lib.hid ho9
          have HD2 : Hid (d2 = midD d x load ∧ d2.waits.length = 0) := ⟨hd2, by rw [hd2]; exact waits_flush _⟩
          have HB9 := Lib.hid (HB8.out.trans hb9)
          have HK9 := Lib.hid (HK.out.below HB9.out HBP.out)
          obtain ⟨m9, hs9, _, _, hto9⟩ := ho9.secE HP.out
          have HS9 := Lib.hid hs9
          have HTO9 := Lib.hid hto9
          have g3 : w9.cell? ⟨s, 3, none⟩ = some (.map (some m9)) := hs9.box.cell 3 _ rfl
          have HK9D := Lib.hid (HK9.out.below ((Below.refl B w9).drew) HBP.out)
          clear ho9 hb9 hs9 hto9 hd2 HO8 HB8 HFL g0 HD1
          have HOF := Lib.hid (of_any load w9.drew (by have := HMAY.out.2.2; omega) HK9D.out)
          go_wp2_with fail
          refine wp_region_tree (fun W => W.cell? ⟨s, 3, none⟩ = some (.map (some m9))) 12 (.quiet 0 (.quiet 1 (.quiet 2 (.quiet 3 (.quiet 4 (.quiet 5 (.quiet 6 (.quiet 8 (.quiet 9 (.quiet 10 (.make 7 (.quiet 11 .nil)))))))))))) (by kernel_rfl) (by kernel_rfl) g3 ?_
          simp only [List.drop_succ_cons, List.drop_zero]
          iterate 10 (apply wpTr_step rfl; (intro W hS K hK; go_simp; exact hK _ rfl))
          refine wpTr_make rfl (fun K' hK => ?_)
          go_simp
          refine HOF.out.mono ?_
          rintro e w10 ⟨rfl, hb⟩
          have hb10 : Below w9.heap.size w9 w10 := (Below.refl _ w9).drew.trans hb
          have HS10 := Lib.hid (HS9.out.keep hb10)
          have HW10 := Lib.hid hb10
          refine hK _ _ _ (fun _ h => h) (HS10.out.box.cell 3 _ rfl) ?_
          clear hK K' hb hb10 HS9 g3 HOF HK9D
          apply wpTr_step rfl
          · intro W hS K hK
            go_simp
            exact hK _ rfl
          refine wpTr_nil ?_
          obtain ⟨D, hown, hDI⟩ := HS10.out.map
          have HDI := Lib.hid hDI
          have HEL : Hid ((nextN (dropX x at')).e.length < maxLen) := by
            have h1 : (forgetS x.e at').length ≤ x.e.length := List.length_filter_le _ _
            have h2 := HL.out
            show (forgetS x.e at').length < maxLen
            unfold maxLen
            omega
          clear hDI
          go_wp2_with (first
            | (at_mapUpdate; refine wpList_mapUpdate_own _ rfl _ _ _ 156 rfl 3 170 keyedY Tryz.underlying156 enR m9 (nextN (dropX x at')).e.length D rfl hown HEL.out _ _ _ rfl rfl (keyOfY HAW.out) _ [] (enR_mk ⟨key, sha load, (load.size : Int), at'⟩) ?_; intro w11 hown11 hgr11)
            | fail)
          have hC11 : Chg [m9] w10 w11 := Chg.only hgr11
          have hmap : EnAt w11 m9 (putS (nextN (dropX x at')).e at' ⟨key, sha load, (load.size : Int), at'⟩) := by
            have h1 := HDI.out.put (hown.tidy keyedY) HAW.out ⟨key, sha load, (load.size : Int), at'⟩
            refine ⟨_, ?_, h1⟩
            have := sowns_tight hown11
            rw [h1.size] at this
            exact this
          have hbox := HS10.out.box.of (hC11.block s HS10.out.box.lt (by simpa using HS10.out.ne))
          obtain ⟨hone, hbel⟩ := HTO9.out w11 (setX (nextN (dropX x at')) at' ⟨key, sha load, (load.size : Int), at'⟩) ((Chg.of HW10.out (Nat.le_refl _)).trans (hC11.mono (by simp))) ⟨hbox, hmap, HS10.out.ne⟩
          obtain ⟨x3, hx3⟩ : ∃ x3, x3 = midX x key load := ⟨_, rfl⟩
          rw [show setX (nextN (dropX x at')) at' ⟨key, sha load, (load.size : Int), at'⟩ = x3 from by rw [hx3, HAT.out]; rfl] at hone
          have HX3 : Hid (x3 = midX x key load ∧ x3.f = x.f ∧ x3.n = x.n ∧ x3.hand = x.hand ∧ x3.num = x.num + 1) := ⟨hx3, by rw [hx3]; exact ⟨rfl, rfl, rfl, rfl⟩⟩
          have HO11 := Lib.hid hone
          have HB11 := Lib.hid (HB9.out.trans hbel)
          have HK11 := Lib.hid (HK9.out.below hbel HBP.out)
          clear hown hown11 hgr11 hC11 hmap hbox hone hbel HDI HTO9 HS10 HW10 HO9 HB9 HK9 hx3
          have HWL := Lib.hid (writelog_any HP.out HO11.out (by rw [HX3.out.2.1]; exact HX.out) (by rw [HX3.out.2.2.1]; exact HN.out) HK11.out HBP.out (by rw [HX3.out.2.2.2.1]; exact HH.out) (by have := HQ.out; rw [HX3.out.2.2.2.2]; omega) (by have := HD2.out.2; omega))
          refine HWL.out.mono ?_
          rintro e w12 ⟨rfl, ho12, hb12⟩
          have HO12 := Lib.hid ho12
          have HB12 := Lib.hid (HB11.out.trans hb12)
          obtain ⟨m12, hs12, _, _, hto12⟩ := ho12.secE HP.out
          have HS12 := Lib.hid hs12
          have HTO12 := Lib.hid hto12
          have HS12D := Lib.hid (hs12.keep (Below.refl _ w12).drew)
          have g5 : w12.cell? ⟨s, 5, none⟩ = some (.int .i64 x.hand) := by
            rw [← HX3.out.2.2.2.1]
            exact hs12.box.cell 5 _ rfl
          obtain ⟨nh, hnh⟩ : ∃ nh, nh = (x.hand + 1) % rm := ⟨_, rfl⟩
          obtain ⟨q1, q2, q3, q4, q5, q6, q7⟩ := hand_facts (h := x.hand) (r := rm) (by have := HH.out; omega) (by rw [HRR.out]; exact HRM.out.1) (by rw [HRR.out]; have := HRM.out.2; omega)
          rw [← hnh] at q3 q4 q5
          obtain ⟨h1, hh1⟩ : ∃ h1 : Int, h1 = (x.hand : Int) + 1 := ⟨_, rfl⟩
          rw [show ((x.hand + 1 : Nat) : Int) = h1 from hh1.symm, ← hh1] at q1 q2
          rw [← hh1] at q3
          have q1' : wrap64 ((x.hand : Int) + 1) = h1 := by rw [← hh1]; exact q1
          have q2' : IntKind.i64.wrap ((x.hand : Int) + 1) = h1 := by rw [← hh1]; exact q2
          have q8 : ¬ rm = 0 := by rw [HRR.out]; have := HRM.out.1; omega
          have HNH := Lib.hid hnh
          have HRMO := Lib.hid (room_any s b m12 (nextN x3) w12.drew HS12D.out.box (by show x3.n ≤ _; rw [HX3.out.2.2.1]; exact HN.out))
          rw [show roomN (nextN x3).n = rm from by rw [nextN_n, HX3.out.2.2.1, HRR.out]] at HRMO
          clear hs12 hto12 ho12 hb12 hnh hh1 q1 q2 HO11 HB11 HK11 HWL
          go_wp2_with fail
          refine wp_region_tree (fun W => W.cell? ⟨s, 5, none⟩ = some (.int .i64 x.hand)) 9 (.quiet 0 (.quiet 1 (.quiet 2 (.quiet 3 (.quiet 4 (.quiet 5 (.quiet 6 (.make 7 (.quiet 8 .nil))))))))) (by kernel_rfl) (by kernel_rfl) g5 ?_
          simp only [List.drop_succ_cons, List.drop_zero]
          iterate 7 (apply wpTr_step rfl; (intro W hS K hK; go_simp; exact hK _ rfl))
          refine wpTr_make rfl (fun K' hK => ?_)
          go_simp
          refine HRMO.out.mono ?_
          rintro e w13 ⟨rfl, hb⟩
          have hb13 : Below w12.heap.size w12 w13 := (Below.refl _ w12).drew.trans hb
          have HS13 := Lib.hid (HS12.out.keep hb13)
          have HW13 := Lib.hid hb13
          have g5' : w13.cell? ⟨s, 5, none⟩ = some (.int .i64 x.hand) := by
            rw [← HX3.out.2.2.2.1]
            exact HS13.out.box.cell 5 _ rfl
          have g5f : w13.frozen? ⟨s, 5, none⟩ = false := HS13.out.box.free 5
          refine hK _ _ _ (fun _ h => h) g5' ?_
          clear hK K' hb hb13 HS12D HRMO g5 HS12
          apply wpTr_step rfl
          · intro W hS K hK
            go_simp
            exact hK _ rfl
          refine wpTr_nil ?_
          go_wp2
          go_ret
          have hbx := HS13.out.box.set 5 (.int .i64 (nh : Int))
          have hcs : Chg [s, m12] w13 (w13.setCell ⟨s, 5, none⟩ (.int .i64 (nh : Int))) := (Chg.refl _ w13).set s 5 _ (.inl (by simp))
          have hm2 : (w13.setCell ⟨s, 5, none⟩ (.int .i64 (nh : Int))).heap[m12]? = w13.heap[m12]? := heap_setCell_other w13 ⟨s, 5, none⟩ m12 _ (fun e => HS13.out.ne e.symm)
          obtain ⟨hone, hbel⟩ := HTO12.out _ (handX (nextN x3)) ((Chg.of HW13.out (Nat.le_refl _)).trans hcs) ⟨by
            rw [HNH.out, HRR.out, ← HX3.out.2.2.1, ← HX3.out.2.2.2.1] at hbx ⊢
            exact hbx, HS13.out.map.of hm2, HS13.out.ne⟩
          rw [HR.out]
          refine ⟨rfl, ?_, HB12.out.trans hbel⟩
          rw [HX3.out.1, HD2.out.1] at hone
          exact hone
end
end Go.Proofs.YtphhnhldbajaoaaGreatDoor
