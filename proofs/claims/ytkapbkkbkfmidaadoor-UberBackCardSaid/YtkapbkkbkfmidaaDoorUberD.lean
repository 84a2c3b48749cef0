/-
  Contracts of package uber: Write.
-/
import Derived.Test.YtkapbkkbkfmidaaDoorUberC
namespace Go.Proofs.YtkapbkkbkfmidaaDoor
open Go.RowKit Go.ChangeShapes Go.WideShapes Go.ChangeAt

def wrU1 (d : DevD) (u : UbD) : DevD := writeD d (0, u.txg % 4) (encU u).1
def wrU (d : DevD) (u : UbD) : DevD := writeD (wrU1 d u) (1, u.txg % 4) (encU u).1
def wrUk (d : DevD) (u : UbD) (k : Nat) : DevD := if k = 0 then d else if k = 1 then wrU1 d u else wrU d u
def chU (d : DevD) (u : UbD) (k : Nat) : Int := if k = 0 then chkD d (0, u.txg % 4) (encU u).1.size else chkD (wrU1 d u) (1, u.txg % 4) (encU u).1.size
def wkU (d : DevD) (u : UbD) (k : Nat) : Bool := if k = 0 then false else if k = 1 then chU d u 0 == 0 else (chU d u 0 == 0 || chU d u 1 == 0)
/-- Write's answer. -/
def uwR (d : DevD) (u : UbD) : Int := if wkU d u 2 then 0 else 5
theorem aggInt (w : World) : (isAgg 3).run Tryd.prog w = .ok false w := by kernel_rfl
theorem sizeInt (w : World) : (sizeOf 3).run Tryd.prog w = .ok 1 w := by kernel_rfl
theorem index2 (w : World) (k : Nat) (hk : k < 2) : (Instr.index 91 (.agg #[.int .i64 0, .int .i64 1]) (.int .i64 (k : Int))).run Tryd.prog w = .ok (.int .i64 (k : Int)) w := by
  refine run_index_arr w _ 3 2 _ _ _ Tryd.underlying91 (aggInt w) (sizeInt w) (by omega) ?_
  have h2 : k = 0 ∨ k = 1 := by omega
  rcases h2 with rfl | rfl <;> rfl

set_option maxRecDepth 100000 in
theorem uwrite_bad (x : Option Addr) (u : UbD) (w : World) (hs : u.load.size ≤ 140737488351232) (hK : Kt w) (hm : ¬ mayU u) : Calls Tryd.prog 22 #[.pointer x, ubV u] w fun e w' => e = .returned (.int .i64 1) ∧ Below w.heap.size w w' := by
  have hx := (Below.refl w.heap.size w).alloc (Nat.le_refl _) (.cells #[.int .i64 u.txg, .string u.load] 30 (0, 0))
  have BX := Box.new w 30 #[.int .i64 u.txg, .string u.load]
  have HX := Lib.hid hx
  have he := encode_any u (w.alloc (.cells #[.int .i64 u.txg, .string u.load] 30 (0, 0))) hs (hK.below hx hK.pos)
  rw [show encU u = (⟨#[]⟩, 1) from if_neg hm] at he
  have HE := Lib.hid he
  obtain ⟨t, l⟩ := u
  unfold ubV at *
  simp only at *
  have k0 := BX.cell 0 _ rfl
  have k1 := BX.cell 1 _ rfl
  clear hx BX he hs hK hm
  go_enter Tryd.func22, Tryd.ntmps22
  go_wp2_with fail
  refine HE.out.mono ?_
  rintro e w1 ⟨rfl, hb⟩
  have H1 := Lib.hid (HX.out.trans (hb.mono HX.out.size))
  clear hb k0 k1 HE HX
  go_wp2
  go_ret
  exact ⟨rfl, H1.out⟩

set_option maxRecDepth 100000 in
theorem uwrite_nil (u : UbD) (w : World) (hs : u.load.size ≤ 140737488351232) (hK : Kt w) : Calls Tryd.prog 22 #[.pointer none, ubV u] w fun e w' => e = .returned (.int .i64 1) ∧ Below w.heap.size w w' := by
  by_cases hm : mayU u
  · have hx := (Below.refl w.heap.size w).alloc (Nat.le_refl _) (.cells #[.int .i64 u.txg, .string u.load] 30 (0, 0))
    have BX := Box.new w 30 #[.int .i64 u.txg, .string u.load]
    have HX := Lib.hid hx
    have he := encode_any u (w.alloc (.cells #[.int .i64 u.txg, .string u.load] 30 (0, 0))) hs (hK.below hx hK.pos)
    rw [show (encU u).2 = 0 from by rw [encU_ok hm]] at he
    generalize (encU u).1 = tx at *
    have HE := Lib.hid he
    obtain ⟨t, l⟩ := u
    unfold ubV at *
    simp only at *
    have k0 := BX.cell 0 _ rfl
    have k1 := BX.cell 1 _ rfl
    clear hx BX he hs hK hm
    go_enter Tryd.func22, Tryd.ntmps22
    go_wp2_with fail
    refine HE.out.mono ?_
    rintro e w1 ⟨rfl, hb⟩
    have H1 := Lib.hid (HX.out.trans (hb.mono HX.out.size))
    clear hb k0 k1 HE HX
    go_wp2
    go_ret
    exact ⟨rfl, H1.out⟩
  · exact uwrite_bad none u w hs hK hm

set_option maxRecDepth 100000 in
set_option maxHeartbeats 2000000 in
theorem uwrite_ok {B : Nat} {P : List Nat → World → Prop} (hP : Fixed P) {b : Nat} {d : DevD} {w : World} (h : One B P b d w) (_hB : 0 < B) (hK : Kt w) (u : UbD) (hm : mayU u) (hlen : d.waits.length ≤ 1000) :
    Calls Tryd.prog 22 #[.pointer (some ⟨b, 0, none⟩), ubV u] w fun e w' => e = .returned (.int .i64 (uwR d u)) ∧ One B P b (wrU d u) w' ∧ Below B w w' := by
  have hx := (Below.refl w.heap.size w).alloc (Nat.le_refl _) (.cells #[.int .i64 u.txg, .string u.load] 30 (0, 0))
  have BX := Box.new w 30 #[.int .i64 u.txg, .string u.load]
  have H0 := Lib.hid (h.addBox hP 30 #[.int .i64 u.txg, .string u.load])
  have hP2 := Lib.hid (fixed_both hP (fixed_box w.heap.size 30 #[.int .i64 u.txg, .string u.load]))
  have HX := Lib.hid (hx.mono h.1)
  have he := encode_any u (w.alloc (.cells #[.int .i64 u.txg, .string u.load] 30 (0, 0))) (by have := hm.2.2; omega) (hK.below hx hK.pos)
  rw [show (encU u).2 = 0 from by rw [encU_ok hm]] at he
  have HE := Lib.hid he
  have hw : ∀ k, (wrUk d u k).waits.length ≤ 100000 := by
    intro k
    have h1 := writeD_len' d (0, u.txg % 4) (encU u).1
    have h2 := writeD_len' (wrU1 d u) (1, u.txg % 4) (encU u).1
    unfold wrUk
    split
    · omega
    · split
      · unfold wrU1; omega
      · unfold wrU; unfold wrU1 at h2 ⊢; omega
  have HW := Lib.hid hw
  have HPL : Hid (0 ≤ u.txg) := hm.1
  have HK0 : Hid (wrUk d u 0 = d ∧ wrUk d u 1 = writeD (wrUk d u 0) (0, u.txg % 4) (encU u).1 ∧ wrUk d u 2 = writeD (wrUk d u 1) (1, u.txg % 4) (encU u).1 ∧ wrUk d u 2 = wrU d u) := ⟨rfl, rfl, rfl, rfl⟩
  have HC0 : Hid (chU d u 0 = chkD (wrUk d u 0) (0, u.txg % 4) (encU u).1.size ∧ chU d u 1 = chkD (wrUk d u 1) (1, u.txg % 4) (encU u).1.size) := ⟨rfl, rfl⟩
  have HWK : Hid (wkU d u 0 = false ∧ wkU d u 1 = (chU d u 0 == 0) ∧ wkU d u 2 = (chU d u 0 == 0 || chU d u 1 == 0) ∧ uwR d u = if wkU d u 2 then 0 else 5) := ⟨rfl, rfl, rfl, rfl⟩
  obtain ⟨t, l⟩ := u
  unfold ubV at *
  simp only at *
  have k0 := BX.cell 0 _ rfl
  have k1 := BX.cell 1 _ rfl
  clear hx BX he hK hm h hlen hw _hB
  generalize (encU ⟨t, l⟩).1 = tx at *
  go_enter Tryd.func22, Tryd.ntmps22
  go_wp2_with fail
  generalize hwx : World.alloc _ _ = wx at *
  refine HE.out.mono ?_
  rintro e w1 ⟨rfl, hb⟩
  have H1 := Lib.hid (H0.out.keep hP2.out hb)
  have L1 := Lib.hid (HX.out.trans (hb.mono H0.out.1))
  clear hb k0 k1 HE HX H0 hwx
  rw [← HK0.out.1] at H1
  go_wp2_with fail
  go_loopw [7, 22] (fun v i wr => ∃ k : Nat, k ≤ 2 ∧ i = .int .i64 k ∧ v = .bool (wkU d ⟨t, l⟩ k) ∧ Hid (One B (Both P (BoxP w.heap.size 30 #[.int .i64 t, .string l])) b (wrUk d ⟨t, l⟩ k) wr) ∧ Hid (Below B w wr)) (fun _ i _ => 2 - (intOf i).toNat)
  case atStart => exact ⟨0, by omega, rfl, by rw [HWK.out.1], H1, L1⟩
  case round =>
    clear H1 L1
    obtain ⟨k, hk, rfl, rfl, H, L⟩ := hrel
    by_cases hlt : k < 2
    · have hbx := H.out.box
      have k0 : wr.cell? ⟨w.heap.size, 0, none⟩ = some (.int .i64 t) := hbx.cell 0 _ rfl
      have k1 : wr.cell? ⟨w.heap.size, 1, none⟩ = some (.string l) := hbx.cell 1 _ rfl
      have hix := fun W => index2 W k hlt
      have hkk : (k : Int) < 2 := by omega
      have HLT := Lib.hid hlt
      clear hbx hlt
      have HN : Hid (wrUk d ⟨t, l⟩ (k + 1) = writeD (wrUk d ⟨t, l⟩ k) ((k : Int), t % 4) tx ∧ chU d ⟨t, l⟩ k = chkD (wrUk d ⟨t, l⟩ k) ((k : Int), t % 4) tx.size ∧ wkU d ⟨t, l⟩ (k + 1) = (wkU d ⟨t, l⟩ k || chU d ⟨t, l⟩ k == 0)) := by
        have h2 := HLT.out
        have h3 : k = 0 ∨ k = 1 := by omega
        rcases h3 with rfl | rfl
        · exact ⟨HK0.out.2.1, HC0.out.1, by rw [HWK.out.2.1, HWK.out.1]; simp⟩
        · exact ⟨HK0.out.2.2.1, HC0.out.2, by rw [HWK.out.2.2.1, HWK.out.2.1]⟩
      generalize hwk : wkU d ⟨t, l⟩ k = wk at *
      clear hwk
      go_wp2_with fail
      refine (place_any ⟨t, l⟩ _ (by exact HPL.out)).mono ?_
      rintro e w2 ⟨rfl, hb⟩
      rw [show (⟨t, l⟩ : UbD).txg % 4 = t % 4 from rfl]
      have H2 := Lib.hid (H.out.keep hP2.out hb)
      have L2 := Lib.hid (L.out.trans (hb.mono H.out.1))
      clear hb k0 k1 H L hix
      generalize t % 4 = pl at *
      go_wp2_with fail
      refine (one_write hP2.out H2.out ((k : Int), pl) tx (HW.out k)).mono ?_
      rintro e w3 ⟨rfl, ho, hb⟩
      rw [← HN.out.1] at ho
      rw [← HN.out.2.1]
      have H3 := Lib.hid ho
      have L3 := Lib.hid (L2.out.trans hb)
      clear ho hb H2 L2
      have hlt := HLT.out
      by_cases hc : chU d ⟨t, l⟩ k = 0
      · have HV : Hid (wkU d ⟨t, l⟩ (k + 1) = true) := by show _ = _; rw [HN.out.2.2, hc]; simp
        rw [hc]
        clear hc
        go_wp2
        go_roundw
        case rel => exact ⟨k + 1, by omega, by go_num, by rw [HV.out], H3, L3⟩
        case measure => simp [intOf]; omega
      · have hq : (chU d ⟨t, l⟩ k == 0) = false := by simpa using hc
        have HV : Hid (wkU d ⟨t, l⟩ (k + 1) = wk) := by show _ = _; rw [HN.out.2.2, hq]; simp
        clear hc
        go_wp2
        go_roundw
        case rel => exact ⟨k + 1, by omega, by go_num, by rw [HV.out], H3, L3⟩
        case measure => simp [intOf]; omega
    · have hk2 : k = 2 := by omega
      subst hk2
      have H2 := Lib.hid H.out.drop
      rw [HK0.out.2.2.2] at H2
      have HR := Lib.hid HWK.out.2.2.2
      clear hlt hk H
      generalize wkU d ⟨t, l⟩ 2 = wk at *
      cases wk
      · go_wp2
        go_ret
        exact ⟨by rw [HR.out]; rfl, H2.out, L.out⟩
      · go_wp2
        go_ret
        exact ⟨by rw [HR.out]; rfl, H2.out, L.out⟩
end Go.Proofs.YtkapbkkbkfmidaaDoor
