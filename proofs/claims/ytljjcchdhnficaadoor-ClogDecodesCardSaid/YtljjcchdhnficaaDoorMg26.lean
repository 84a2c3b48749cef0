/-
  Texts put together: Root, RefPad.
-/
import Derived.Test.YtljjcchdhnficaaDoorMg25
import Derived.Deep.LoopGhost
import Derived.Test.YtljjcchdhnficaaDoorMg11
namespace Go.Proofs.YtljjcchdhnficaaDoor
open Go.RowKit

theorem rootK_bound (p power : Nat) : ∀ k, k ≤ 41 → rootK p power k + 2 ^ (41 - k) ≤ 2199023255552
  | 0, _ => by show 0 + 2 ^ 41 ≤ 2199023255552; decide
  | k + 1, h => by
    have ih := rootK_bound p power k (by omega)
    have e : 2 ^ (41 - k) = 2 ^ (40 - k) + 2 ^ (40 - k) := by
      rw [show 41 - k = (40 - k) + 1 by omega, Nat.pow_succ]; omega
    rw [rootK, show 41 - (k + 1) = 40 - k by omega]
    generalize 2 ^ (40 - k) = q at *
    generalize 2 ^ (41 - k) = s at *
    split <;> omega
theorem digL_lt (n : Nat) : ∀ k j, (digL n k).getD j 0 ≤ 65535
  | 0, j => by simp [digL]
  | k + 1, j => by
    rw [digL, List.getD, List.getElem?_append]
    split
    · exact digL_lt n k j
    · cases h : j - (digL n k).length with
      | zero =>
        show n / 65536 ^ k % 65536 ≤ 65535
        exact Nat.le_of_lt_succ (Nat.mod_lt _ (by decide))
      | succ i => simp
theorem times_dd (d : List Nat) (hl : d.length = 3) (hd : ∀ k, d.getD k 0 ≤ 65535) : (timesL d d).length = 6 ∧ ∀ k, (timesL d d).getD k 0 ≤ 2097152 := by
  refine ⟨by rw [timesL, tOut_length]; omega, fun k => ?_⟩
  have := tOut_bound d d 65536 (Nat.le_refl _) (fun x => by have := hd x; omega) hd d.length (by omega) k
  rw [timesL]
  rw [hl] at this ⊢
  omega

theorem Nums.sl {w : World} {base : Nat} {v : Value} {l : List Nat} (h : Nums w base v l) (hne : l ≠ []) : ∃ b off cap, v = .slice (some ⟨b, off, none⟩) l.length cap ∧ Sl w nV (some ⟨b, off, none⟩) l := by
  obtain ⟨a, cap, e, hs⟩ := h.view
  obtain ⟨b, off, rfl, _⟩ := hs hne
  exact ⟨b, off, cap, e, hs⟩

theorem times_len (x y : Option Addr) (cx cy : Nat) (a b : List Nat) (A na nb : Nat) (w : World) (ea : a.length = na) (eb : b.length = nb) (ha : Sl w nV x a) (hb : Sl w nV y b) (la1 : 1 ≤ na) (la2 : na ≤ 15) (lb1 : 1 ≤ nb) (lb2 : nb ≤ 15) (hA : 65536 ≤ A) (hA2 : A ≤ 1073741824)
    (hda : ∀ k, a.getD k 0 ≤ A) (hdb : ∀ k, b.getD k 0 ≤ 65535) :
    Calls Tryd.prog 52 #[.slice x na cx, .slice y nb cy] w fun e w' => ∃ v, e = .returned v ∧ Nums w' w.heap.size v (timesL a b) ∧ Below w.heap.size w w' := by
  subst ea eb
  exact times_any x y cx cy a b A w ha hb la1 la2 lb1 lb2 hA hA2 hda hdb
theorem above_len (x y : Option Addr) (cx cy : Nat) (a b : List Nat) (na nb : Nat) (w : World) (ea : a.length = na) (eb : b.length = nb) (ha : Sl w nV x a) (hb : Sl w nV y b) (la : na ≤ 1000) (lb : nb ≤ 1000) :
    Calls Tryd.prog 53 #[.slice x na cx, .slice y nb cy] w fun e w' => e = .returned (.bool (aboveL a b)) ∧ w = w' := by
  subst ea eb
  exact above_any x y cx cy a b w ha hb la lb

set_option maxRecDepth 100000 in
set_option maxHeartbeats 2000000 in
theorem root_any (p power : Nat) (hp : p ≤ 1000) (hw : power = 2 ∨ power = 3) (w : World) : Calls Tryd.prog 31 #[.int .i64 p, .int .i64 power] w fun e w' => e = .returned (.int .i64 (rootL p power : Nat)) ∧ Below w.heap.size w w' := by
  obtain ⟨i0, hi, hz0, hz1, hz2⟩ := info_parts infoInt
  have HRL : Hid (rootL p power = rootK p power 41 % 4294967296) := rfl
  have HGL : Hid (goalL p power = List.replicate (2 * power) 0 ++ digL p 2) := rfl
  have hdl := digL_length p 2
  have HDL := Lib.hid hdl
  have hpw : 2 ≤ power ∧ power ≤ 3 := by omega
  obtain ⟨hw2, hw3⟩ := hpw
  clear hdl hw
  go_enter Tryd.func31, Tryd.ntmps31
  go_wp2_with (at_make; refine wpList_make_full _ rfl _ _ 66 rfl w.heap.size 3 i0 (.int .i64 0) 1 Tryd.underlying66 hi hz0 hz1 .i64 .i64 (2 * (power : Int)) (2 * (power : Int)) (2 * power) rfl rfl (by omega) (by omega) (by rw [hz2]; omega) (by unfold maxLen; omega) (Nat.le_refl _) ?_)
  intro w1 hown hg
  have hbuf := made_nums (2 * power) hown
  have hbel : Below w.heap.size w w1 := (Below.refl _ _).grown hg (Nat.le_refl _) (fun k hk => by cases hk)
  have HU := Lib.hid hbuf
  have HL := Lib.hid hbel
  clear hown hg hbuf hbel
  go_wp2_with fail
  refine (digits_any p 2 _ (by omega) (by decide)).mono ?_
  rintro e w2 ⟨v, rfl, hn, hb⟩
  have HL2 := Lib.hid (HL.out.trans (hb.mono HL.out.size))
  have HU2 : Hid (Nums w2 w.heap.size (.slice (some ⟨w.heap.size, 0, none⟩) (2 * power) (2 * power)) (List.replicate (2 * power) 0)) := by
    have h := HU.out
    have hlt : w.heap.size < w1.heap.size := by
      rcases h.2 with ⟨h', _⟩ | ⟨g, cap, cur, hv, _, hh, _⟩
      · simp at h'
      · simp only [Value.slice.injEq, Option.some.injEq, Addr.mk.injEq, and_true] at hv
        rw [← hv.1] at hh
        exact lt_of_block hh
    refine ⟨h.1, ?_⟩
    rcases h.2 with ⟨h', _⟩ | ⟨g, cap, cur, hv, hg, hh, hr⟩
    · simp at h'
    · refine .inr ⟨g, cap, cur, hv, hg, ?_, hr⟩
      have : g = w.heap.size := by
        simp only [Value.slice.injEq, Option.some.injEq, Addr.mk.injEq, and_true] at hv
        exact hv.1.symm
      rw [hb.block g (by omega)]; exact hh
  obtain ⟨b2, o2, c2, rfl, hs2⟩ := hn.sl (by intro h; have := HDL.out; rw [h] at this; simp at this)
  have HS2 := Lib.hid hs2
  clear hn hb hs2 HU HL
  rw [HDL.out]
  go_wp2_with (at_builtin; refine wp_nums_push _ rfl _ _ rfl w.heap.size _ (List.replicate (2 * power) 0) rfl HU2.out ⟨b2, o2, none⟩ 2 c2 (digL p 2) rfl HDL.out (by intro j u hj; obtain ⟨b', off', e', _, hc⟩ := HS2.out (by intro h; rw [h] at hj; simp at hj); injection e' with e'; injection e' with e1 e2; subst e1 e2; show _ = _; rw [Go.WideShapes.add_plain]; exact hc j u hj) (by simp; omega) (by exact HL2.out.size) ?_)
  intro v3 w3 hn3 hb3
  rw [← HGL.out] at hn3
  have hglen : (goalL p power).length = 2 * power + 2 := by rw [HGL.out, List.length_append, List.length_replicate, HDL.out]
  obtain ⟨b3, o3, c3, rfl, hs3⟩ := hn3.sl (by intro h; rw [h] at hglen; simp at hglen)
  have HS3 := Lib.hid hs3
  have HL3 := Lib.hid (HL2.out.trans hb3)
  have HGLEN := Lib.hid hglen
  rw [hglen]
  clear hn3 hb3 hs3 hglen HU2 HL2 HS2
  go_wp2
  go_loopw [6, 7] (fun x bit wr => ∃ k : Nat, k ≤ 41 ∧ bit = .int .i64 (40 - (k : Int)) ∧ x = .int .i64 (rootK p power k : Nat) ∧ Hid (Sl wr nV (some ⟨b3, o3, none⟩) (goalL p power)) ∧ Hid (Below w.heap.size w wr)) (fun _ bit _ => (RowKit.intOf bit + 1).toNat)
  case atStart => exact ⟨0, Nat.zero_le _, rfl, rfl, HS3, HL3⟩
  case round =>
    clear HS3 HL3
    obtain ⟨k, hk, rfl, rfl, HS, HL⟩ := hrel
    by_cases hlt : k < 41
    · have hbd := rootK_bound p power k hk
      have HSTEP : Hid (rootK p power (k + 1) = if aboveL (powL (rootK p power k + 2 ^ (40 - k)) power) (goalL p power) then rootK p power k else rootK p power k + 2 ^ (40 - k)) := rfl
      have hp2 : 2 ^ (40 - k) ≤ 2 ^ (41 - k) := Nat.pow_le_pow_right (by decide) (by omega)
      obtain ⟨n, hn⟩ : ∃ n, n = 40 - k := ⟨_, rfl⟩
      have hbit : (40 : Int) - (k : Int) = (n : Int) := by omega
      rw [hbit]
      rw [← hn] at HSTEP hp2
      obtain ⟨z, hz⟩ : ∃ z, z = rootK p power k := ⟨_, rfl⟩
      rw [← hz] at HSTEP hbd ⊢
      have hn40 : n ≤ 40 := by omega
      have hp3 : 2 ^ n ≤ 1099511627776 := Nat.pow_le_pow_right (n := 2) (by decide) hn40
      obtain ⟨m, hm⟩ : ∃ m, m = 2 ^ n := ⟨_, rfl⟩
      have e2 : (2 : Int) ^ n = (m : Int) := by rw [hm, Int.natCast_pow]; rfl
      rw [← hm] at HSTEP hp3
      have hzb : z ≤ 2199023255552 := by omega
      have HBIT : Hid ((40 : Int) - ((k + 1 : Nat) : Int) = (n : Int) - 1) := by show _ = _; omega
      have HZ := Lib.hid hz
      clear hz hn hbit hm hbd hp2
      have hy : z + m ≤ 4503599627370496 := by omega
      go_wp2_with fail
      have e3 : ((z : Int) + (m : Int)) = ((z + m : Nat) : Int) := by omega
      rw [e3]
      clear e3
      refine (digits_any (z + m) 3 _ hy (by decide)).mono ?_
      rintro e v1 ⟨vd, rfl, hnd, hb⟩
      have hdl := digL_length (z + m) 3
      have HDD := Lib.hid (digL_lt (z + m) 3)
      have HDL3 := Lib.hid hdl
      obtain ⟨bd, od, cd, rfl, hsd⟩ := hnd.sl (by intro h; rw [h] at hdl; simp at hdl)
      have HS1 := Lib.hid (sl_keep HS.out hb)
      have HL1 := Lib.hid (HL.out.trans (hb.mono HL.out.size))
      have HD1 := Lib.hid hsd
      have HPW : Hid (powL (z + m) power = if power = 3 then timesL (timesL (digL (z + m) 3) (digL (z + m) 3)) (digL (z + m) 3) else timesL (digL (z + m) 3) (digL (z + m) 3)) := rfl
      clear hnd hb hsd HS HL hdl
      generalize digL (z + m) 3 = d at *
      have hd3 := HDL3.out
      go_wp2_with fail
      refine (times_len (some ⟨bd, od, none⟩) (some ⟨bd, od, none⟩) cd cd d d 65536 3 3 _ HDL3.out HDL3.out HD1.out HD1.out (by decide) (by decide) (by decide) (by decide) (by decide) (by decide) (fun k => by have := HDD.out k; omega) HDD.out).mono ?_
      rintro e v2 ⟨vn, rfl, hnn, hb⟩
      have HTT := Lib.hid (times_dd d HDL3.out HDD.out)
      obtain ⟨bn, on, cn, rfl, hsn⟩ := hnn.sl (by intro h; have := HTT.out.1; rw [h] at this; simp at this)
      have HS2 := Lib.hid (sl_keep HS1.out hb)
      have HL2 := Lib.hid (HL1.out.trans (hb.mono HL1.out.size))
      have HD2 := Lib.hid (sl_keep HD1.out hb)
      have HN2 := Lib.hid hsn
      clear hnn hb hsn HS1 HL1 HD1
      by_cases h3 : power = 3
      · have hq : ((power : Int) == 3) = true := by rw [beq_iff_eq]; omega
        rw [if_pos h3] at HPW
        clear h3
        generalize timesL d d = n2 at *
        have hn6 := HTT.out.1
        go_wp2_with fail
        refine (times_len (some ⟨bn, on, none⟩) (some ⟨bd, od, none⟩) cn cd n2 d 2097152 6 3 _ HTT.out.1 HDL3.out HN2.out HD2.out (by decide) (by decide) (by decide) (by decide) (by decide) (by decide) HTT.out.2 HDD.out).mono ?_
        rintro e v3 ⟨vm, rfl, hnm, hb⟩
        have hlm : (timesL n2 d).length = 9 := by rw [timesL, tOut_length]; omega
        obtain ⟨bm, om, cm, rfl, hsm⟩ := hnm.sl (by intro h; rw [h] at hlm; simp at hlm)
        have HS3 := Lib.hid (sl_keep HS2.out hb)
        have HL3 := Lib.hid (HL2.out.trans (hb.mono HL2.out.size))
        have HM3 := Lib.hid hsm
        clear hnm hb hsm HS2 HL2 HD2 HN2
        rw [← HPW.out] at HM3 hlm ⊢
        generalize powL (z + m) power = pl at *
        go_wp2_with fail
        refine (above_len (some ⟨bm, om, none⟩) (some ⟨b3, o3, none⟩) cm c3 pl (goalL p power) 9 (2 * power + 2) _ hlm HGLEN.out HM3.out HS3.out (by decide) (by omega)).mono ?_
        rintro e w' ⟨rfl, rfl⟩
        cases hab : aboveL pl (goalL p power)
        · have HE : Hid (rootK p power (k + 1) = z + m) := by show _ = _; rw [HSTEP.out, hab]; rfl
          clear hab
          go_wp2
          go_roundw
          case rel => exact ⟨k + 1, by omega, by rw [HBIT.out], by rw [HE.out]; go_num, HS3, HL3⟩
          case measure => simp [RowKit.intOf]
        · have HE : Hid (rootK p power (k + 1) = z) := by show _ = _; rw [HSTEP.out, hab]; rfl
          clear hab
          go_wp2
          go_roundw
          case rel => exact ⟨k + 1, by omega, by rw [HBIT.out], by rw [HE.out], HS3, HL3⟩
          case measure => simp [RowKit.intOf]
      · have hq : ((power : Int) == 3) = false := by rw [beq_eq_false_iff_ne]; omega
        rw [if_neg h3] at HPW
        rw [← HPW.out] at HTT HN2 ⊢
        generalize powL (z + m) power = pl at *
        have hn6 := HTT.out.1
        clear h3
        go_wp2_with fail
        refine (above_len (some ⟨bn, on, none⟩) (some ⟨b3, o3, none⟩) cn c3 pl (goalL p power) 6 (2 * power + 2) _ HTT.out.1 HGLEN.out HN2.out HS2.out (by decide) (by omega)).mono ?_
        rintro e w' ⟨rfl, rfl⟩
        cases hab : aboveL pl (goalL p power)
        · have HE : Hid (rootK p power (k + 1) = z + m) := by show _ = _; rw [HSTEP.out, hab]; rfl
          clear hab
          go_wp2
          go_roundw
          case rel => exact ⟨k + 1, by omega, by rw [HBIT.out], by rw [HE.out]; go_num, HS2, HL2⟩
          case measure => simp [RowKit.intOf]
        · have HE : Hid (rootK p power (k + 1) = z) := by show _ = _; rw [HSTEP.out, hab]; rfl
          clear hab
          go_wp2
          go_roundw
          case rel => exact ⟨k + 1, by omega, by rw [HBIT.out], by rw [HE.out], HS2, HL2⟩
          case measure => simp [RowKit.intOf]
    · have hk41 : k = 41 := by omega
      subst hk41
      have hbd := rootK_bound p power 41 (Nat.le_refl _)
      have hbd2 : rootK p power 41 ≤ 2199023255552 := by omega
      generalize hr : rootK p power 41 = r at *
      clear hbd hr
      go_wp2
      go_ret
      exact ⟨ret_int (by rw [HRL.out]; simp), HL.out⟩
end Go.Proofs.YtljjcchdhnficaaDoor

namespace Go.Proofs.YtljjcchdhnficaaDoor
open Go.RowKit

def padZs (s : ByteArray) (j : Nat) : ByteArray := s ++ ⟨(128 :: List.replicate j (0 : UInt8)).toArray⟩
theorem padZs_size (s : ByteArray) (j : Nat) : (padZs s j).size = s.size + (1 + j) := by
  rw [← ba_len, padZs]
  simp [ByteArray.data_append]; omega
theorem padZs_succ (s : ByteArray) (j : Nat) : padZs s j ++ ⟨#[0]⟩ = padZs s (j + 1) := by
  apply ba_eq
  simp [padZs, List.replicate_succ']
where
  app_list' (a b : ByteArray) : (a ++ b).data.toList = a.data.toList ++ b.data.toList := by simp [ByteArray.data_append]
def padBs (s : ByteArray) (n k : Nat) : ByteArray := s ++ ⟨(be8 n k).toArray⟩
theorem padBs_succ (s : ByteArray) (n k : Nat) : padBs s n k ++ ⟨#[UInt8.ofNat (n / 2 ^ (56 - 8 * k))]⟩ = padBs s n (k + 1) := by
  apply ba_eq
  simp [padBs, be8_succ]
theorem pad_all (s : ByteArray) : padBs (padZs s (padZ s.size)) (8 * s.size) 8 = s ++ ⟨(padB s.size).toArray⟩ := by
  apply ba_eq
  simp [padBs, padZs, padB]

theorem one_text (w : World) (n k : Nat) (u : Value) (hu : u = byV (UInt8.ofNat (8 * n / 2 ^ (56 - 8 * k)))) :
    (convert 50 9 (.slice (some ⟨w.heap.size, 0, none⟩) 1 1)).run Tryd.prog (w.alloc (.cells #[u] 5 (0, 0))) = .ok (.string ⟨#[UInt8.ofNat (8 * n / 2 ^ (56 - 8 * k))]⟩) (w.alloc (.cells #[u] 5 (0, 0))) := by
  subst hu
  have hb : Buf (w.alloc (.cells #[byV (UInt8.ofNat (8 * n / 2 ^ (56 - 8 * k)))] 5 (0, 0))) w.heap.size (.slice (some ⟨w.heap.size, 0, none⟩) 1 1) [UInt8.ofNat (8 * n / 2 ^ (56 - 8 * k))] :=
    World.ownsRow_lit w #[byV (UInt8.ofNat (8 * n / 2 ^ (56 - 8 * k)))] 1 (Nat.le_refl _) (by decide) rfl
  exact hb.text

set_option maxRecDepth 100000 in
set_option maxHeartbeats 1000000 in
theorem rpad_any (s : ByteArray) (w : World) (hs : s.size ≤ 1000000) : Calls Tryd.prog 32 #[.string s] w fun e w' => e = .returned (.string (s ++ ⟨(padB s.size).toArray⟩)) ∧ Below w.heap.size w w' := by
  have HALL := Lib.hid (pad_all s)
  have HZZ := Lib.hid (padZs_size s)
  have HZS := Lib.hid (padZs_succ s)
  have hq : ¬ 9223372036854775807 < s.size + 1 := by omega
  have HP1 : Hid (s ++ ⟨#[128]⟩ = padZs s 0) := rfl
  have hpz := padZ_lt s.size
  have HM := Lib.hid (pad_more s.size)
  have HD := Lib.hid (pad_done s.size)
  go_enter Tryd.func32, Tryd.ntmps32
  go_wp2
  go_loop [0] (fun x => ∃ j : Nat, j ≤ padZ s.size ∧ x = .string (padZs s j)) (fun x => match x with | .string t => s.size + 1 + padZ s.size - t.size | _ => 0)
  case atStart => exact ⟨0, Nat.zero_le _, by rw [← HP1.out]⟩
  case round =>
    obtain ⟨j, hj, rfl⟩ := hrel
    have hz := HZZ.out j
    by_cases hlt : j < padZ s.size
    · have hm : ((((padZs s j).size : Nat) : Int) % 64 != 56) = true := by
        have := HM.out j hlt
        rw [hz, show ((s.size + (1 + j) : Nat) : Int) = (s.size : Int) + (1 + (j : Int)) by omega]; exact this
      have hq2 : ¬ 9223372036854775807 < (padZs s j).size + 1 := by omega
      have HS2 := HZS.out j
      have HZ2 := HZZ.out (j + 1)
      have HSS := Lib.hid HS2
      have HZZ2 := Lib.hid HZ2
      have Hz := Lib.hid hz
      clear HS2 HZ2 hz
      go_wp2
      go_round
      case rel => exact ⟨j + 1, by omega, by rw [← HSS.out]⟩
      case measure =>
        simp
        have e1 := Hz.out
        have e2 : (⟨#[0]⟩ : ByteArray).size = 1 := rfl
        omega
    · have hjz : j = padZ s.size := by omega
      have hm : ((((padZs s j).size : Nat) : Int) % 64 != 56) = false := by
        have := HD.out j hjz
        rw [hz, show ((s.size + (1 + j) : Nat) : Int) = (s.size : Int) + (1 + (j : Int)) by omega]; exact this
      subst hjz
      have hz2 : (padZs s (padZ s.size)).size ≤ 1000100 := by omega
      generalize padZs s (padZ s.size) = t at *
      clear hz
      go_wp2
      go_loopw [0, 4] (fun x i wr => ∃ k : Nat, k ≤ 8 ∧ i = .int .i64 (7 - (k : Int)) ∧ x = .string (padBs t (8 * s.size) k) ∧ Hid (Below w.heap.size w wr)) (fun _ i _ => (RowKit.intOf i + 1).toNat)
      case atStart => exact ⟨0, Nat.zero_le _, rfl, congrArg Value.string (ba_eq (by simp [padBs, be8, ByteArray.data_append])), Below.refl _ _⟩
      case round =>
        obtain ⟨k, hk, rfl, rfl, HL⟩ := hrel
        by_cases hlt : k < 8
        · have hpb := pad_byte s.size k
          rw [Int.mul_comm, show 56 - 8 * k = 8 * (7 - k) by omega] at hpb
          have hc := one_text wr s.size k (.int .u8 (8 * (s.size : Int) / 2 ^ (8 * (7 - k)) % 256)) (by rw [hpb, show 56 - 8 * k = 8 * (7 - k) by omega])
          have HS2 := Lib.hid (padBs_succ t (8 * s.size) k)
          have hbz : (padBs t (8 * s.size) k).size = t.size + k := by
            rw [← ba_len, padBs]; simp [ByteArray.data_append, be8_length]
          have hq2 : ¬ 9223372036854775807 < (padBs t (8 * s.size) k).size + 1 := by omega
          have HBIT : Hid ((7 : Int) - ((k + 1 : Nat) : Int) = 7 - (k : Int) - 1) := by show _ = _; omega
          generalize hg : UInt8.ofNat (8 * s.size / 2 ^ (56 - 8 * k)) = bb at *
          clear hpb hbz hg
          go_wp2
          go_roundw
          case rel => exact ⟨k + 1, by omega, by rw [HBIT.out], by rw [HS2.out], HL.out.trans ((Below.refl _ _).alloc HL.out.size _)⟩
          case measure => simp [RowKit.intOf]; omega
        · have hk8 : k = 8 := by omega
          subst hk8
          go_wp2
          go_ret
          exact ⟨ret_str (by rw [HALL.out]), HL.out⟩
end Go.Proofs.YtljjcchdhnficaaDoor
