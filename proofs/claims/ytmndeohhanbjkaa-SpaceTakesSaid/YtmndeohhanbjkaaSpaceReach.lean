/-
  Contracts of package space: meet, reached.
-/
import Derived.Test.YtmndeohhanbjkaaSpaceMeet
import Derived.Deep.RegionHeld3
import Derived.Deep.QuietTactic
import Derived.BigQuiet
namespace Go.Proofs.Ytmndeohhanbjkaa
open Go.RowKit Go.ChangeShapes Go.WideShapes Go.ChangeAt

abbrev S5 (w : World) (b o : Nat) (xa xn ra rn : Int) (w' : World) : Prop := w'.cell? ⟨b, o, none⟩ = some (.int .i64 xa) ∧ w'.cell? ⟨b, o + 1, none⟩ = some (.int .i64 xn) ∧ w'.cell? ⟨w.heap.size, 0, none⟩ = some (.int .i64 ra) ∧ w'.cell? ⟨w.heap.size, 1, none⟩ = some (.int .i64 rn)
theorem S5.below {w u v : World} {b o : Nat} {xa xn ra rn : Int} (h : S5 w b o xa xn ra rn u) (hb : Below u.heap.size u v) : S5 w b o xa xn ra rn v := by
  obtain ⟨h0, h1, h2, h3⟩ := h
  exact ⟨(hb.cell (lt_of_cell h0)).trans h0, (hb.cell (lt_of_cell h1)).trans h1, (hb.cell (lt_of_cell h2)).trans h2, (hb.cell (lt_of_cell h3)).trans h3⟩
set_option maxRecDepth 100000 in
set_option maxHeartbeats 4000000 in
theorem reached_some (b off : Nat) (cap : Nat) (l : List (Int × Int)) (r : Int × Int) (w : World) (h : SlP w (some ⟨b, off, none⟩) l) (hb : b < w.heap.size) (hl : l.length ≤ 1000) (hall : ∀ x ∈ l, MayR x) (hr : MayR r) :
    Calls Try.prog 30 #[.slice (some ⟨b, off, none⟩) l.length cap, .agg #[.int .i64 r.1, .int .i64 r.2]] w fun e w' =>
      e = .returned (.tuple #[.int .i64 (fromN l r.1), .int .i64 (downTo l (r.1 + r.2) (fromN l r.1) l.length)]) ∧ Below w.heap.size w w' := by
  obtain ⟨ra, rn⟩ := r
  have HAT : Hid (∀ i (hi : i < l.length) W, Below w.heap.size w W → W.cell? ⟨b, off + i * 2, none⟩ = some (.int .i64 l[i].1) ∧ W.cell? ⟨b, off + i * 2 + 1, none⟩ = some (.int .i64 l[i].2)) := by
    intro i hi W hW
    obtain ⟨b', off', e', _, hc0, hc1⟩ := h.get i hi
    injection e' with e'
    injection e' with q1 q2
    subst q1 q2
    exact ⟨(hW.cell (p := ⟨b, _, none⟩) hb).trans hc0, (hW.cell (p := ⟨b, _, none⟩) hb).trans hc1⟩
  have HALL := Lib.hid hall
  have HR := Lib.hid hr
  have BX := Lib.hid (Box.new w 46 #[.int .i64 ra, .int .i64 rn])
  have HL0 := Lib.hid ((Below.refl w.heap.size w).alloc (Nat.le_refl _) (.cells #[.int .i64 ra, .int .i64 rn] 46 (0, 0)))
  have E := fun (y : Int × Int) (hy : MayR y) (v : World) => end_any y v hy.1 (by have := hy.2.1; have := hy.2.2; omega) (by have := hy.2.1; omega) (by have := hy.1; have := hy.2.2; omega)
  have HE := Lib.hid E
  clear E h hall hr hb
  simp only
  go_enter Try.func30, Try.ntmps30
  go_wp2_with fail
  go_loopw [6] (fun i wr => ∃ k : Nat, k ≤ l.length ∧ i = .int .i64 k ∧ Hid (∀ x ∈ l.take k, x.1 + x.2 < ra) ∧ Hid (Below w.heap.size w wr) ∧ Hid (Box wr w.heap.size 46 #[.int .i64 ra, .int .i64 rn])) (fun i _ => l.length - (intOf i).toNat)
  case atStart => exact ⟨0, Nat.zero_le _, rfl, Lib.hid (fun x hx => by simp at hx), HL0, BX⟩
  case round =>
    obtain ⟨k, hk, rfl, HN, HL, HBX⟩ := hrel
    have hki : (0 : Int) ≤ (k : Int) := by omega
    by_cases hlt : k < l.length
    · obtain ⟨hc0, hc1⟩ := HAT.out k hlt wr HL.out
      have HX := Lib.hid (HALL.out _ (List.getElem_mem hlt))
      have HST := Lib.hid (fun e => from_step HN.out hlt e)
      have HFA := Lib.hid (fun e => from_at HN.out hlt e)
      have k0 := HBX.out.cell 0 _ rfl
      have k1 := HBX.out.cell 1 _ rfl
      generalize l[k] = x at *
      obtain ⟨xa, xn⟩ := x
      have HS : Hid (S5 w b (off + k * 2) xa xn ra rn wr.drew) := ⟨hc0, hc1, k0, k1⟩
      have HB : Hid (Below w.heap.size w wr.drew) := HL.out.drew
      have HBB : Hid (Box wr.drew w.heap.size 46 #[.int .i64 ra, .int .i64 rn]) := HBX.out
      have hkl : (k : Int) < (l.length : Int) := by omega
      have d9 : decide (k < l.length) = true := decide_eq_true hlt
      clear hc0 hc1 k0 k1 HL HBX
      go_wp2_with fail
      go_region_held3 (fun w' => w'.cell? ⟨b, off + k * 2, none⟩ = some (.int .i64 xa) ∧ w'.cell? ⟨b, off + k * 2 + 1, none⟩ = some (.int .i64 xn) ∧ w'.cell? ⟨w.heap.size, 0, none⟩ = some (.int .i64 ra) ∧ w'.cell? ⟨w.heap.size, 1, none⟩ = some (.int .i64 rn)) (with_reducible exact HS.out)
        ((go_at_call 24; refine (HE.out (xa, xn) HX.out _).mono ?_; rintro e w2 ⟨rfl, hb⟩; have HS := Lib.hid (HS.out.below hb); have HB := Lib.hid (HB.out.trans (hb.mono HB.out.size)); have HBB := Lib.hid (HBB.out.keep hb HBB.out.lt); clear hb; dsimp only))
      by_cases c0 : xa + xn < ra
      · have HN2 := Lib.hid (HST.out c0)
        go_wp2
        go_roundw
        case rel => exact ⟨k + 1, by omega, by go_num, HN2, HB, HBB⟩
        case measure => simp [intOf]; omega
      · have HF := Lib.hid (HFA.out (by omega))
        clear HST HFA HX HN hlt hkl d9 HS
        go_wp2
        go_loopw [7] (fun i wr => ∃ t : Nat, k ≤ t ∧ t ≤ l.length ∧ i = .int .i64 t ∧ Hid (downTo l (ra + rn) k l.length = downTo l (ra + rn) k t) ∧ Hid (Below w.heap.size w wr) ∧ Hid (Box wr w.heap.size 46 #[.int .i64 ra, .int .i64 rn])) (fun i _ => (intOf i).toNat)
        case atStart => exact ⟨l.length, hk, Nat.le_refl _, rfl, rfl, HB, HBB⟩
        case round =>
          clear HB HBB
          obtain ⟨t, hft, htl, rfl, HD, HB, HBB⟩ := hrel
          by_cases hlt2 : k < t
          · obtain ⟨j, rfl⟩ : ∃ j, t = j + 1 := ⟨t - 1, by omega⟩
            have hjl : j < l.length := by omega
            obtain ⟨hc0, hc1⟩ := HAT.out j hjl wr HB.out
            have hge : l.getD j (0, 0) = l[j] := by simp [List.getD, List.getElem?_eq_getElem hjl]
            have HDT : Hid (ra + rn < l[j].1 → downTo l (ra + rn) k (j + 1) = downTo l (ra + rn) k j) := by
              intro h
              rw [downTo, if_pos ⟨hlt2, by rw [hge]; exact h⟩]
            have HDF : Hid (¬ ra + rn < l[j].1 → downTo l (ra + rn) k (j + 1) = j + 1) := by
              intro h
              rw [downTo, if_neg (by rw [hge]; intro h'; exact h h'.2)]
            have k0 := HBB.out.cell 0 _ rfl
            have k1 := HBB.out.cell 1 _ rfl
            clear hge
            generalize l[j] = x at *
            obtain ⟨xa, xn⟩ := x
            have HS : Hid (S5 w b (off + j * 2) xa xn ra rn wr.drew) := ⟨hc0, hc1, k0, k1⟩
            have HB : Hid (Below w.heap.size w wr.drew) := HB.out.drew
            have HBB : Hid (Box wr.drew w.heap.size 46 #[.int .i64 ra, .int .i64 rn]) := HBB.out
            have e1 : IntKind.i64.wrap (((j + 1 : Nat) : Int) - 1) = (j : Int) := by rw [IntWalk.i64_in _ ⟨by omega, by omega⟩]; omega
            have e2 : ((j : Int) + 1 - 1) = (j : Int) := by omega
            have e3 : IntKind.i64.wrap ((j : Int) + 1 - 1) = (j : Int) := by rw [IntWalk.i64_in _ ⟨by omega, by omega⟩]; omega
            have hj0 : (0 : Int) ≤ (j : Int) := by omega
            have hjl2 : (j : Int) < (l.length : Int) := by omega
            have d8 : decide ((k : Int) < ((j + 1 : Nat) : Int)) = true := decide_eq_true (by omega)
            have d9 : decide (k < j + 1) = true := decide_eq_true (by omega)
            have d10 : decide ((k : Int) < (j : Int) + 1) = true := decide_eq_true (by omega)
            have d11 : decide (k ≤ j) = true := decide_eq_true (by omega)
            have d12 : decide ((k : Int) ≤ (j : Int)) = true := decide_eq_true (by omega)
            have d13 : (k : Int) < (j : Int) + 1 := by omega
            have e4 : (j : Int).toNat = j := by omega
            have e5 : IntKind.i64.wrap (j : Int) = (j : Int) := IntWalk.i64_in _ ⟨by omega, by omega⟩
            have e6 : (j : Int) ≤ 1000 := by omega
            clear hc0 hc1 k0 k1
            go_wp2_with fail
            go_region_held3 (fun w' => w'.cell? ⟨b, off + j * 2, none⟩ = some (.int .i64 xa) ∧ w'.cell? ⟨b, off + j * 2 + 1, none⟩ = some (.int .i64 xn) ∧ w'.cell? ⟨w.heap.size, 0, none⟩ = some (.int .i64 ra) ∧ w'.cell? ⟨w.heap.size, 1, none⟩ = some (.int .i64 rn)) (with_reducible exact HS.out)
              ((go_at_call 24; refine (HE.out (ra, rn) HR.out _).mono ?_; rintro e w2 ⟨rfl, hb⟩; have HS := Lib.hid (HS.out.below hb); have HB := Lib.hid (HB.out.trans (hb.mono HB.out.size)); have HBB := Lib.hid (HBB.out.keep hb HBB.out.lt); clear hb; dsimp only))
            by_cases c1 : ra + rn < xa
            · have HD2 : Hid (downTo l (ra + rn) k l.length = downTo l (ra + rn) k j) := by show _ = _; rw [HD.out]; exact HDT.out c1
              go_wp2
              go_roundw
              case rel => exact ⟨j, by omega, by omega, by first | rfl | (rw [e2]), HD2, HB, HBB⟩
              case measure => simp [intOf]; try omega
            · have HD2 : Hid (downTo l (ra + rn) k l.length = j + 1) := by show _ = _; rw [HD.out]; exact HDF.out (by omega)
              go_wp2
              go_ret2
              exact ⟨by rw [HF.out, HD2.out]; rfl, HB.out⟩
          · obtain rfl : k = t := by omega
            have HD2 : Hid (downTo l (ra + rn) k l.length = k) := by
              show _ = _
              have h1 := down_ge l (ra + rn) k l.length hk
              have h2 := down_le l (ra + rn) k k
              rw [HD.out] at h1 ⊢
              omega
            have HDN : Hid (∀ nq, Below w.heap.size w (wr.drewN nq)) := fun nq => ⟨HB.out.os, HB.out.tape, HB.out.output, HB.out.size, HB.out.block⟩
            have d8 : decide ((k : Int) < (k : Int)) = false := by simp
            go_wp2_with fail
            go_quiet (fail)
            go_wp2
            go_ret2
            exact ⟨by rw [HF.out, HD2.out]; rfl, HDN.out _⟩
    · have hke : k = l.length := by omega
      have HF : Hid (fromN l ra = k) := by
        have h1 := HN.out
        rw [hke, List.take_length] at h1
        show _ = _
        rw [hke]
        exact from_end h1
      have d9 : decide ((k : Int) < (l.length : Int)) = false := by simp; omega
      have d8 : decide (k < l.length) = false := by simp; omega
      have HKE := Lib.hid hke
      have HB0 : Hid (∀ nq, Below w.heap.size w (wr.drewN nq)) := fun nq => ⟨HL.out.os, HL.out.tape, HL.out.output, HL.out.size, HL.out.block⟩
      have HBB0 : Hid (∀ nq, Box (wr.drewN nq) w.heap.size 46 #[.int .i64 ra, .int .i64 rn]) := fun nq => HBX.out
      clear HL HBX hke HN hlt
      go_wp2_with fail
      go_quiet (fail)
      have HB := Lib.hid (HB0.out nq)
      have HBB := Lib.hid (HBB0.out nq)
      clear HB0 HBB0 d9 d8
      go_wp2
      go_loopw [7] (fun i wr => ∃ t : Nat, k ≤ t ∧ t ≤ l.length ∧ i = .int .i64 t ∧ Hid (downTo l (ra + rn) k l.length = downTo l (ra + rn) k t) ∧ Hid (Below w.heap.size w wr) ∧ Hid (Box wr w.heap.size 46 #[.int .i64 ra, .int .i64 rn])) (fun i _ => (intOf i).toNat)
      case atStart => exact ⟨l.length, hk, Nat.le_refl _, rfl, rfl, HB, HBB⟩
      case round =>
        clear HB HBB
        obtain ⟨t, hft, htl, rfl, HD, HB, HBB⟩ := hrel
        by_cases hlt2 : k < t
        · obtain ⟨j, rfl⟩ : ∃ j, t = j + 1 := ⟨t - 1, by omega⟩
          have hjl : j < l.length := by omega
          obtain ⟨hc0, hc1⟩ := HAT.out j hjl wr HB.out
          have hge : l.getD j (0, 0) = l[j] := by simp [List.getD, List.getElem?_eq_getElem hjl]
          have HDT : Hid (ra + rn < l[j].1 → downTo l (ra + rn) k (j + 1) = downTo l (ra + rn) k j) := by
            intro h
            rw [downTo, if_pos ⟨hlt2, by rw [hge]; exact h⟩]
          have HDF : Hid (¬ ra + rn < l[j].1 → downTo l (ra + rn) k (j + 1) = j + 1) := by
            intro h
            rw [downTo, if_neg (by rw [hge]; intro h'; exact h h'.2)]
          have k0 := HBB.out.cell 0 _ rfl
          have k1 := HBB.out.cell 1 _ rfl
          clear hge
          generalize l[j] = x at *
          obtain ⟨xa, xn⟩ := x
          have HS : Hid (S5 w b (off + j * 2) xa xn ra rn wr.drew) := ⟨hc0, hc1, k0, k1⟩
          have HB : Hid (Below w.heap.size w wr.drew) := HB.out.drew
          have HBB : Hid (Box wr.drew w.heap.size 46 #[.int .i64 ra, .int .i64 rn]) := HBB.out
          have e1 : IntKind.i64.wrap (((j + 1 : Nat) : Int) - 1) = (j : Int) := by rw [IntWalk.i64_in _ ⟨by omega, by omega⟩]; omega
          have e2 : ((j : Int) + 1 - 1) = (j : Int) := by omega
          have e3 : IntKind.i64.wrap ((j : Int) + 1 - 1) = (j : Int) := by rw [IntWalk.i64_in _ ⟨by omega, by omega⟩]; omega
          have hj0 : (0 : Int) ≤ (j : Int) := by omega
          have hjl2 : (j : Int) < (l.length : Int) := by omega
          have d8 : decide ((k : Int) < ((j + 1 : Nat) : Int)) = true := decide_eq_true (by omega)
          have d9 : decide (k < j + 1) = true := decide_eq_true (by omega)
          have d10 : decide ((k : Int) < (j : Int) + 1) = true := decide_eq_true (by omega)
          have d11 : decide (k ≤ j) = true := decide_eq_true (by omega)
          have d12 : decide ((k : Int) ≤ (j : Int)) = true := decide_eq_true (by omega)
          have d13 : (k : Int) < (j : Int) + 1 := by omega
          have e4 : (j : Int).toNat = j := by omega
          have e5 : IntKind.i64.wrap (j : Int) = (j : Int) := IntWalk.i64_in _ ⟨by omega, by omega⟩
          have e6 : (j : Int) ≤ 1000 := by omega
          clear hc0 hc1 k0 k1
          go_wp2_with fail
          go_region_held3 (fun w' => w'.cell? ⟨b, off + j * 2, none⟩ = some (.int .i64 xa) ∧ w'.cell? ⟨b, off + j * 2 + 1, none⟩ = some (.int .i64 xn) ∧ w'.cell? ⟨w.heap.size, 0, none⟩ = some (.int .i64 ra) ∧ w'.cell? ⟨w.heap.size, 1, none⟩ = some (.int .i64 rn)) (with_reducible exact HS.out)
            ((go_at_call 24; refine (HE.out (ra, rn) HR.out _).mono ?_; rintro e w2 ⟨rfl, hb⟩; have HS := Lib.hid (HS.out.below hb); have HB := Lib.hid (HB.out.trans (hb.mono HB.out.size)); have HBB := Lib.hid (HBB.out.keep hb HBB.out.lt); clear hb; dsimp only))
          by_cases c1 : ra + rn < xa
          · have HD2 : Hid (downTo l (ra + rn) k l.length = downTo l (ra + rn) k j) := by show _ = _; rw [HD.out]; exact HDT.out c1
            go_wp2
            go_roundw
            case rel => exact ⟨j, by omega, by omega, by first | rfl | (rw [e2]), HD2, HB, HBB⟩
            case measure => simp [intOf]; try omega
          · have HD2 : Hid (downTo l (ra + rn) k l.length = j + 1) := by show _ = _; rw [HD.out]; exact HDF.out (by omega)
            go_wp2
            go_ret2
            exact ⟨by rw [HF.out, HD2.out]; rfl, HB.out⟩
        · obtain rfl : k = t := by omega
          have HD2 : Hid (downTo l (ra + rn) k l.length = k) := by
            show _ = _
            have h1 := down_ge l (ra + rn) k l.length hk
            have h2 := down_le l (ra + rn) k k
            rw [HD.out] at h1 ⊢
            omega
          have HDN : Hid (∀ nq, Below w.heap.size w (wr.drewN nq)) := fun nq => ⟨HB.out.os, HB.out.tape, HB.out.output, HB.out.size, HB.out.block⟩
          have d8 : decide ((k : Int) < (k : Int)) = false := by simp
          go_wp2_with fail
          go_quiet (fail)
          go_wp2
          go_ret2
          exact ⟨by rw [HF.out, HD2.out]; rfl, HDN.out _⟩
end Go.Proofs.Ytmndeohhanbjkaa
