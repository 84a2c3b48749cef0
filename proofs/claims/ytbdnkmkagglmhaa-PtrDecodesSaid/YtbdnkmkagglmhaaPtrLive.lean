/-
  live, the closed part of each statement of package ptr.
-/
import Derived.Test.YtbdnkmkagglmhaaPtrEnc
import Derived.Test.YtbdnkmkagglmhaaPtrDec
import Derived.Test.YtbdnkmkagglmhaaPtrSameC
namespace Go.Proofs.Ytbdnkmkagglmhaa
open Go.RowKit

def sum0 : ByteArray := ⟨#[48, 49, 50, 51, 52, 53, 54, 55, 56, 57, 97, 98, 99, 100, 101, 102, 48, 49, 50, 51, 52, 53, 54, 55, 56, 57, 97, 98, 99, 100, 101, 102]⟩
def p0 : PtrD := ⟨[(1, 300)], 5, 7, sum0⟩
def S0 : ByteArray := encB p0
theorem ok0 : ¬ badP p0 := by decide +kernel
theorem badN : badP nilP := by decide +kernel
theorem sz0 : S0.size = 44 := by decide +kernel
theorem d0l : (decP S0).1.locs = p0.locs := by decide +kernel
theorem d0n : (decP S0).1.len = p0.len := by decide +kernel
theorem d0m : (decP S0).1.birth = p0.birth := by decide +kernel
theorem d0s : (decP S0).1.sum = p0.sum := by decide +kernel
theorem d0e : (decP S0).2 = 0 := by decide +kernel
theorem d0 : decP S0 = (p0, 0) := by
  have h : ∀ a b : PtrD × Int, a.1.locs = b.1.locs → a.1.len = b.1.len → a.1.birth = b.1.birth → a.1.sum = b.1.sum → a.2 = b.2 → a = b := by
    rintro ⟨⟨a1, a2, a3, a4⟩, a5⟩ ⟨⟨b1, b2, b3, b4⟩, b5⟩ h1 h2 h3 h4 h5
    simp only at h1 h2 h3 h4 h5
    subst h1 h2 h3 h4 h5
    rfl
  exact h _ _ d0l d0n d0m d0s d0e
def SX : ByteArray := S0 ++ ⟨#[120]⟩
theorem dx : (decP SX).2 = 3 := by decide +kernel
theorem dn : (decP ⟨#[]⟩).2 = 2 := by decide +kernel
theorem d3 : (decP ⟨#[3]⟩).2 = 3 := by decide +kernel
theorem c0 : chkP p0 = 0 := if_neg ok0
theorem cn : chkP nilP = 1 := if_pos badN
theorem same0 : sameD p0 p0 = true := by unfold sameD; simp
theorem on0 : onP p0.locs 1 = true := by decide +kernel
theorem on1 : onP p0.locs 0 = false := by decide +kernel
theorem ce0 : (if badP p0 then ⟨#[]⟩ else encB p0) = S0 := if_neg ok0
theorem cen : (if badP nilP then ⟨#[]⟩ else encB nilP) = (⟨#[]⟩ : ByteArray) := if_pos badN

set_option maxHeartbeats 1000000 in
theorem live_any (w : World) : Calls Try.prog 33 #[] w fun e w' => e = .returned (.bool true) ∧ Below w.heap.size w w' := by
  have E0 := Lib.hid ce0
  have EN := Lib.hid cen
  go_enter Try.func33, Try.ntmps33
  go_wp2_with fail
  generalize hwx : World.alloc _ _ = wx
  have hx : Below w.heap.size w wx ∧ Box wx w.heap.size 29 #[.int .i64 1, .int .i64 300] ∧ Box wx (w.heap.size + 1) 59 #[.slice (some ⟨w.heap.size, 0, none⟩) 1 1, .int .i64 5, .int .i64 7, .string sum0] := by
    rw [← hwx]
    have e : w.heap.size + 1 = (w.alloc (.cells #[.int .i64 1, .int .i64 300] 29 (0, 0))).heap.size := (size_alloc _ _).symm
    refine ⟨((Below.refl _ _).alloc (Nat.le_refl _) _).alloc (by rw [size_alloc]; omega) _, (Box.new w _ _).alloc _, ?_⟩
    rw [e]
    exact Box.new _ _ _
  have HB := Lib.hid hx.1
  have HA := Lib.hid hx.2.1
  have HP := Lib.hid hx.2.2
  clear hx hwx
  have HS : Hid (SlP wx (some ⟨w.heap.size, 0, none⟩) p0.locs) := fun _ => ⟨w.heap.size, 0, rfl, HA.out.lt, fun i x hi => by
    match i, hi with
    | 0, hi =>
      simp [p0] at hi
      subst hi
      exact ⟨HA.out.cell 0 _ rfl, HA.out.cell 1 _ rfl⟩⟩
  clear HA
  go_wp2_with fail
  refine (encode_any (some ⟨w.heap.size, 0, none⟩) 1 p0 _ HS.out (by decide)).mono ?_
  rintro e w1 ⟨rfl, hb⟩
  rw [E0.out, c0]
  have HB1 := Lib.hid (HB.out.trans (hb.mono HB.out.size))
  have HS1 := Lib.hid (HS.out.keep hb)
  have HP1 := Lib.hid (HP.out.keep hb HP.out.lt)
  clear hb HB HS HP
  go_wp2_with fail
  refine (decode_any S0 _ (by rw [sz0]; decide)).mono ?_
  rintro e w2 ⟨aq, cq, rfl, hs, hb⟩
  rw [d0] at hs ⊢
  simp only [ptrV]
  have HB2 := Lib.hid (HB1.out.trans (hb.mono HB1.out.size))
  have HS2 := Lib.hid (HS1.out.keep hb)
  have HP2 := Lib.hid (HP1.out.keep hb HP1.out.lt)
  have HQ2 := Lib.hid hs
  clear hb hs HB1 HS1 HP1
  go_wp2_with fail
  generalize hwx : World.alloc _ _ = wy
  have hx : Below w2.heap.size w2 wy ∧ Box wy w2.heap.size 59 #[.slice aq p0.locs.length cq, .int .i64 p0.len, .int .i64 p0.birth, .string p0.sum] := by
    rw [← hwx]; exact ⟨(Below.refl _ _).alloc (Nat.le_refl _) _, Box.new _ _ _⟩
  have HG : Hid (w.heap.size + 1 < w2.heap.size) := HP2.out.lt
  have HBy := Lib.hid (HB2.out.trans (hx.1.mono HB2.out.size))
  have HSy := Lib.hid (HS2.out.keep hx.1)
  have HPy := Lib.hid (HP2.out.keep hx.1 HP2.out.lt)
  have HQy := Lib.hid (HQ2.out.keep hx.1)
  have HRy := Lib.hid hx.2
  clear hx hwx HB2 HS2 HP2 HQ2
  refine (encode_any none 0 nilP _ SlP.nil (by decide)).mono ?_
  rintro e w3 ⟨rfl, hb⟩
  rw [EN.out, cn]
  have HB3 := Lib.hid (HBy.out.trans (hb.mono HBy.out.size))
  have HS3 := Lib.hid (HSy.out.keep hb)
  have HP3 := Lib.hid (HPy.out.keep hb HPy.out.lt)
  have HQ3 := Lib.hid (HQy.out.keep hb)
  have HR3 := Lib.hid (HRy.out.keep hb HRy.out.lt)
  clear hb HBy HSy HPy HQy HRy
  have hq : ¬ 9223372036854775807 < S0.size + 1 := by rw [sz0]; decide
  have HX : Hid (S0 ++ ⟨#[120]⟩ = SX) := rfl
  go_wp2_with fail
  rw [HX.out]
  refine (decode_any SX _ (by decide +kernel)).mono ?_
  rintro e w4 ⟨a4, c4, rfl, -, hb⟩
  rw [dx]
  simp only [ptrV]
  have HB4 := Lib.hid (HB3.out.trans (hb.mono HB3.out.size))
  have HS4 := Lib.hid (HS3.out.keep hb)
  have HP4 := Lib.hid (HP3.out.keep hb HP3.out.lt)
  have HQ4 := Lib.hid (HQ3.out.keep hb)
  have HR4 := Lib.hid (HR3.out.keep hb HR3.out.lt)
  clear hb HB3 HS3 HP3 HQ3 HR3
  generalize (decP SX).1 = q4 at *
  go_wp2_with fail
  generalize hwx : World.alloc _ _ = wy
  have hx : Below w4.heap.size w4 wy := by
    rw [← hwx]; exact (Below.refl _ _).alloc (Nat.le_refl _) _
  clear hwx
  have HB5 := Lib.hid (HB4.out.trans (hx.mono HB4.out.size))
  have HS5 := Lib.hid (HS4.out.keep hx)
  have HP5 := Lib.hid (HP4.out.keep hx HP4.out.lt)
  have HQ5 := Lib.hid (HQ4.out.keep hx)
  have HR5 := Lib.hid (HR4.out.keep hx HR4.out.lt)
  clear hx HB4 HS4 HP4 HQ4 HR4
  refine (decode_any ⟨#[]⟩ _ (by decide)).mono ?_
  rintro e w6 ⟨a6, c6, rfl, -, hb⟩
  rw [dn]
  simp only [ptrV]
  have HB6 := Lib.hid (HB5.out.trans (hb.mono HB5.out.size))
  have HS6 := Lib.hid (HS5.out.keep hb)
  have HP6 := Lib.hid (HP5.out.keep hb HP5.out.lt)
  have HQ6 := Lib.hid (HQ5.out.keep hb)
  have HR6 := Lib.hid (HR5.out.keep hb HR5.out.lt)
  clear hb HB5 HS5 HP5 HQ5 HR5
  generalize (decP ⟨#[]⟩).1 = q6 at *
  go_wp2_with fail
  generalize hwx : World.alloc _ _ = wy
  have hx : Below w6.heap.size w6 wy := by
    rw [← hwx]; exact (Below.refl _ _).alloc (Nat.le_refl _) _
  clear hwx
  have HB7 := Lib.hid (HB6.out.trans (hx.mono HB6.out.size))
  have HS7 := Lib.hid (HS6.out.keep hx)
  have HP7 := Lib.hid (HP6.out.keep hx HP6.out.lt)
  have HQ7 := Lib.hid (HQ6.out.keep hx)
  have HR7 := Lib.hid (HR6.out.keep hx HR6.out.lt)
  clear hx HB6 HS6 HP6 HQ6 HR6
  refine (decode_any ⟨#[3]⟩ _ (by decide)).mono ?_
  rintro e w8 ⟨a8, c8, rfl, -, hb⟩
  rw [d3]
  simp only [ptrV]
  have HB8 := Lib.hid (HB7.out.trans (hb.mono HB7.out.size))
  have HS8 := Lib.hid (HS7.out.keep hb)
  have HP8 := Lib.hid (HP7.out.keep hb HP7.out.lt)
  have HQ8 := Lib.hid (HQ7.out.keep hb)
  have HR8 := Lib.hid (HR7.out.keep hb HR7.out.lt)
  clear hb HB7 HS7 HP7 HQ7 HR7
  generalize (decP ⟨#[3]⟩).1 = q8 at *
  have k0 : ∀ o : Obj, (w8.alloc o).cell? ⟨w.heap.size + 1, 0, none⟩ = some (.slice (some ⟨w.heap.size, 0, none⟩) 1 1) := fun o => (HP8.out.alloc o).cell 0 _ rfl
  have k1 : ∀ o : Obj, (w8.alloc o).cell? ⟨w.heap.size + 1, 1, none⟩ = some (.int .i64 5) := fun o => (HP8.out.alloc o).cell 1 _ rfl
  have k2 : ∀ o : Obj, (w8.alloc o).cell? ⟨w.heap.size + 1, 2, none⟩ = some (.int .i64 7) := fun o => (HP8.out.alloc o).cell 2 _ rfl
  have k3 : ∀ o : Obj, (w8.alloc o).cell? ⟨w.heap.size + 1, 3, none⟩ = some (.string sum0) := fun o => (HP8.out.alloc o).cell 3 _ rfl
  have l0 : ∀ o : Obj, (w8.alloc o).cell? ⟨w2.heap.size, 0, none⟩ = some (.slice aq 1 cq) := fun o => (HR8.out.alloc o).cell 0 _ rfl
  have l1 : ∀ o : Obj, (w8.alloc o).cell? ⟨w2.heap.size, 1, none⟩ = some (.int .i64 5) := fun o => (HR8.out.alloc o).cell 1 _ rfl
  have l2 : ∀ o : Obj, (w8.alloc o).cell? ⟨w2.heap.size, 2, none⟩ = some (.int .i64 7) := fun o => (HR8.out.alloc o).cell 2 _ rfl
  have l3 : ∀ o : Obj, (w8.alloc o).cell? ⟨w2.heap.size, 3, none⟩ = some (.string sum0) := fun o => (HR8.out.alloc o).cell 3 _ rfl
  have hz := sz0
  go_wp2_with fail
  clear k0 k1 k2 k3 l0 l1 l2 l3 hz
  generalize hwx : World.alloc _ _ = wy
  have hx : Below w8.heap.size w8 wy := by
    rw [← hwx]; exact (Below.refl _ _).alloc (Nat.le_refl _) _
  clear hwx
  have HB9 := Lib.hid (HB8.out.trans (hx.mono HB8.out.size))
  have HS9 := Lib.hid (HS8.out.keep hx)
  have HP9 := Lib.hid (HP8.out.keep hx HP8.out.lt)
  have HQ9 := Lib.hid (HQ8.out.keep hx)
  clear hx HB8 HS8 HP8 HQ8 HR8
  refine (same_any (some ⟨w.heap.size, 0, none⟩) aq 1 cq p0 p0 _ HS9.out HQ9.out (by decide) (by decide)).mono ?_
  rintro e w10 ⟨rfl, hb⟩
  rw [same0]
  have HB10 := Lib.hid (HB9.out.trans (hb.mono HB9.out.size))
  have HS10 := Lib.hid (HS9.out.keep hb)
  have HP10 := Lib.hid (HP9.out.keep hb HP9.out.lt)
  have k0 : w10.cell? ⟨w.heap.size + 1, 0, none⟩ = some (.slice (some ⟨w.heap.size, 0, none⟩) 1 1) := HP10.out.cell 0 _ rfl
  have k1 : w10.cell? ⟨w.heap.size + 1, 1, none⟩ = some (.int .i64 5) := HP10.out.cell 1 _ rfl
  have k2 : w10.cell? ⟨w.heap.size + 1, 2, none⟩ = some (.int .i64 7) := HP10.out.cell 2 _ rfl
  have k3 : w10.cell? ⟨w.heap.size + 1, 3, none⟩ = some (.string sum0) := HP10.out.cell 3 _ rfl
  clear hb HB9 HS9 HP9 HQ9
  go_wp2_with fail
  clear k0 k1 k2 k3
  refine (on_any (some ⟨w.heap.size, 0, none⟩) 1 p0 1 _ HS10.out (by decide)).mono ?_
  rintro e w11 ⟨rfl, hb⟩
  rw [on0]
  have HB11 := Lib.hid (HB10.out.trans (hb.mono HB10.out.size))
  have HS11 := Lib.hid (HS10.out.keep hb)
  have HP11 := Lib.hid (HP10.out.keep hb HP10.out.lt)
  have k0 : w11.cell? ⟨w.heap.size + 1, 0, none⟩ = some (.slice (some ⟨w.heap.size, 0, none⟩) 1 1) := HP11.out.cell 0 _ rfl
  have k1 : w11.cell? ⟨w.heap.size + 1, 1, none⟩ = some (.int .i64 5) := HP11.out.cell 1 _ rfl
  have k2 : w11.cell? ⟨w.heap.size + 1, 2, none⟩ = some (.int .i64 7) := HP11.out.cell 2 _ rfl
  have k3 : w11.cell? ⟨w.heap.size + 1, 3, none⟩ = some (.string sum0) := HP11.out.cell 3 _ rfl
  clear hb HB10 HS10 HP10
  go_wp2_with fail
  clear k0 k1 k2 k3
  refine (on_any (some ⟨w.heap.size, 0, none⟩) 1 p0 0 _ HS11.out (by decide)).mono ?_
  rintro e w12 ⟨rfl, hb⟩
  rw [on1]
  have HB12 := Lib.hid (HB11.out.trans (hb.mono HB11.out.size))
  have HS12 := Lib.hid (HS11.out.keep hb)
  have HP12 := Lib.hid (HP11.out.keep hb HP11.out.lt)
  have k0 : w12.cell? ⟨w.heap.size + 1, 0, none⟩ = some (.slice (some ⟨w.heap.size, 0, none⟩) 1 1) := HP12.out.cell 0 _ rfl
  have k1 : w12.cell? ⟨w.heap.size + 1, 1, none⟩ = some (.int .i64 5) := HP12.out.cell 1 _ rfl
  have k2 : w12.cell? ⟨w.heap.size + 1, 2, none⟩ = some (.int .i64 7) := HP12.out.cell 2 _ rfl
  have k3 : w12.cell? ⟨w.heap.size + 1, 3, none⟩ = some (.string sum0) := HP12.out.cell 3 _ rfl
  clear hb HB11 HS11 HP11
  go_wp2_with fail
  clear k0 k1 k2 k3
  refine (check_any (some ⟨w.heap.size, 0, none⟩) 1 p0 _ HS12.out (by decide)).mono ?_
  rintro e w13 ⟨rfl, hb⟩
  rw [c0]
  have HB13 := Lib.hid (HB12.out.trans (hb.mono HB12.out.size))
  clear hb HB12 HS12 HP12
  go_wp2
  go_ret
  exact ⟨rfl, HB13.out⟩
end Go.Proofs.Ytbdnkmkagglmhaa
