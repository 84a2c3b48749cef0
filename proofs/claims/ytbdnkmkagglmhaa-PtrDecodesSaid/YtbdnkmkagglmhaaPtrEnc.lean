/-
  The contract of ptr.Encode.
-/
import Derived.Test.YtbdnkmkagglmhaaPtrCheck2
import Derived.Test.YtbdnkmkagglmhaaRefPut
import Derived.Deep.RegionHeld3
import Derived.Deep.QuietTactic
namespace Go.Proofs.Ytbdnkmkagglmhaa
open Go.RowKit

def locsK (acc : ByteArray) (l : List (Int × Int)) : ByteArray := l.foldl (fun s x => s ++ locB x) acc
theorem locsK_snoc (acc : ByteArray) (l : List (Int × Int)) (k : Nat) (h : k < l.length) : locsK acc (l.take (k + 1)) = locsK acc (l.take k) ++ (putB (l[k]).1 1 ++ putB (l[k]).2 2) := by
  rw [List.take_succ_eq_append_getElem h]
  unfold locsK
  rw [List.foldl_append]
  rfl
theorem locsK_size (acc : ByteArray) : ∀ l : List (Int × Int), (locsK acc l).size ≤ acc.size + 14 * l.length := by
  intro l
  induction l generalizing acc with
  | nil => simp [locsK]
  | cons x r ih =>
    have h1 := ih (acc ++ locB x)
    have h2 := putB_size x.1 1
    have h3 := putB_size x.2 2
    have h4 : (acc ++ locB x).size ≤ acc.size + 14 := by rw [locB, ByteArray.size_append, ByteArray.size_append]; omega
    show (locsK (acc ++ locB x) r).size ≤ _
    simp only [List.length_cons]
    omega
theorem encB_eq (l : List (Int × Int)) (n m : Int) (s : ByteArray) : encB ⟨l, n, m, s⟩ = locsK (putB l.length 1) l ++ putB n 2 ++ putB m 6 ++ s := rfl

theorem encode_bad (a : Option Addr) (cap : Nat) (p : PtrD) (w : World) (h : SlP w a p.locs) (hl : p.locs.length ≤ 1000) (hbad : badP p) :
    Calls Try.prog 34 #[ptrV a cap p] w fun e w' => e = .returned (.tuple #[.string ⟨#[]⟩, .int .i64 1]) ∧ Below w.heap.size w w' := by
  have H := Lib.hid h
  clear h
  have HC : Hid (chkP p = 1) := if_pos hbad
  clear hbad
  unfold ptrV
  have HV : Hid (Value.agg #[.slice a p.locs.length cap, .int .i64 p.len, .int .i64 p.birth, .string p.sum] = ptrV a cap p) := rfl
  go_enter Try.func34, Try.ntmps34
  go_wp2_with fail
  refine (check_any a cap p _ (H.out.keep ((Below.refl _ _).alloc (Nat.le_refl _) _)) hl).mono ?_
  rintro e w1 ⟨rfl, hb⟩
  rw [HC.out]
  have HB := Lib.hid (((Below.refl w.heap.size w).alloc (Nat.le_refl _) _).trans (hb.mono (by rw [size_alloc]; omega)))
  clear hb
  go_wp2
  go_ret2
  exact ⟨rfl, HB.out⟩
set_option maxHeartbeats 1000000 in
theorem encode_ok (a : Option Addr) (cap : Nat) (p : PtrD) (w : World) (h : SlP w a p.locs) (hl : p.locs.length ≤ 1000) (hok : ¬ badP p) :
    Calls Try.prog 34 #[ptrV a cap p] w fun e w' => e = .returned (.tuple #[.string (encB p), .int .i64 0]) ∧ Below w.heap.size w w' := by
  have H := Lib.hid h
  clear h
  have HC : Hid (chkP p = 0) := if_neg hok
  have HO := Lib.hid hok
  clear hok
  obtain ⟨l, n, m, s⟩ := p
  unfold ptrV
  simp only at *
  go_enter Try.func34, Try.ntmps34
  go_wp2_with fail
  refine (check_any a cap ⟨l, n, m, s⟩ _ (H.out.keep ((Below.refl _ _).alloc (Nat.le_refl _) _)) hl).mono ?_
  rintro e w1 ⟨rfl, hb⟩
  rw [HC.out]
  have HB := Lib.hid (((Below.refl w.heap.size w).alloc (Nat.le_refl _) _).trans (hb.mono (by rw [size_alloc]; omega)))
  have HG := Lib.hid (fun j v => boxed (cs := #[.slice a l.length cap, .int .i64 n, .int .i64 m, .string s]) hb (by rw [size_alloc]; omega) j v)
  have hz : w.heap.size < w1.heap.size := by have := hb.size; rw [size_alloc] at this; omega
  have g0 := HG.out 0 _ rfl
  clear hb
  go_wp2_with fail
  refine (put_any l.length 1 _).mono ?_
  rintro e w2 ⟨rfl, hb⟩
  have HB2 := Lib.hid (HB.out.trans (hb.mono HB.out.size))
  have HG2 : Hid (∀ j v, (#[.slice a l.length cap, .int .i64 n, .int .i64 m, .string s] : Array Value)[j]? = some v → w2.cell? ⟨w.heap.size, j, none⟩ = some v) := fun j v hj => by rw [hb.cell hz]; exact HG.out j v hj
  have hz2 : w.heap.size < w2.heap.size := by have := hb.size; omega
  clear hb g0 HG hz HB
  have g0 := HG2.out 0 _ rfl
  have HS := Lib.hid (putB_size l.length 1)
  have hs32 : s.size = 32 := by
    have h := HO.out
    by_cases h6 : s.size = 32
    · exact h6
    · exact absurd (Or.inr (Or.inr (Or.inr (Or.inr (Or.inr h6))))) h
  obtain ⟨acc, hacc⟩ : ∃ acc, acc = putB l.length 1 := ⟨_, rfl⟩
  rw [← hacc] at HS ⊢
  have HA : Hid (encB ⟨l, n, m, s⟩ = locsK acc l ++ putB n 2 ++ putB m 6 ++ s) := by show _ = _; rw [encB_eq, hacc]
  clear hacc
  go_wp2
  go_loopw [5, 7, 20] (fun sv _ i wr => ∃ k : Nat, k ≤ l.length ∧ i = .int .i64 k ∧ sv = .string (locsK acc (l.take k)) ∧ Hid (Below w.heap.size w wr) ∧ Hid (w.heap.size < wr.heap.size) ∧ Hid (∀ j v, (#[.slice a l.length cap, .int .i64 n, .int .i64 m, .string s] : Array Value)[j]? = some v → wr.cell? ⟨w.heap.size, j, none⟩ = some v)) (fun _ _ i _ => l.length - (intOf i).toNat)
  case atStart => exact ⟨0, Nat.zero_le _, rfl, rfl, HB2, hz2, HG2⟩
  case round =>
    obtain ⟨k, hk, rfl, rfl, HL, HZ, HG⟩ := hrel
    clear HB2 HG2 hz2 g0
    by_cases hlt : k < l.length
    · obtain ⟨b, off, rfl, hb, hc0, hc1⟩ := (H.out.keep HL.out).get k hlt
      have HT := Lib.hid (locsK_snoc acc l k hlt)
      have hs1 := locsK_size acc (l.take k)
      have hs2 := HS.out
      rw [List.length_take] at hs1
      have hs3 : (locsK acc (l.take k)).size ≤ 20000 := by omega
      clear hs1 hs2
      generalize l[k] = x at *
      obtain ⟨d, at'⟩ := x
      simp only at hc0 hc1
      generalize locsK acc (l.take k) = t at *
      have hp1 := putB_size d 1
      have hp2 := putB_size at' 2
      go_wp2_with fail
      generalize hwx : wr.alloc _ = wx
      have hk0 : wx.cell? ⟨wr.heap.size, 0, none⟩ = some (.int .i64 d) := by rw [← hwx]; exact boxed0 wr _ _ _ 0 _ rfl
      have hk1 : wx.cell? ⟨wr.heap.size, 1, none⟩ = some (.int .i64 at') := by rw [← hwx]; exact boxed0 wr _ _ _ 1 _ rfl
      have hgx : wr.heap.size < wx.heap.size := by rw [← hwx, size_alloc]; omega
      have HX : Hid (Below wr.heap.size wr wx) := by show Below _ _ _; rw [← hwx]; exact (Below.refl _ _).alloc (Nat.le_refl _) _
      have K0 := Lib.hid hk0
      have K1 := Lib.hid hk1
      have GX := Lib.hid hgx
      have q1 : ¬ 9223372036854775807 < (putB d 1).size + (putB at' 2).size := by omega
      have q2 : ¬ 9223372036854775807 < t.size + ((putB d 1).size + (putB at' 2).size) := by omega
      clear hwx hb hc0 hc1 hgx
      go_region_held3 (fun w' => w'.cell? ⟨wr.heap.size, 0, none⟩ = some (.int .i64 d) ∧ w'.cell? ⟨wr.heap.size, 1, none⟩ = some (.int .i64 at')) (first | go_keep | exact hk0 | exact hk1)
        (first
          | (go_at_call_of 60 (Value.int .i64 d); refine (put_any d 1 _).mono ?_; rintro e w3 ⟨rfl, hb3⟩; have hk0 : w3.cell? ⟨wr.heap.size, 0, none⟩ = some (.int .i64 d) := (by rw [hb3.cell GX.out]; exact K0.out); have hk1 : w3.cell? ⟨wr.heap.size, 1, none⟩ = some (.int .i64 at') := (by rw [hb3.cell GX.out]; exact K1.out); have H3 := Lib.hid hb3; have K20 := Lib.hid hk0; have K21 := Lib.hid hk1; clear hb3)
          | (go_at_call_of 60 (Value.int .i64 at'); refine (put_any at' 2 _).mono ?_; rintro e w4 ⟨rfl, hb4⟩; have hk0 : w4.cell? ⟨wr.heap.size, 0, none⟩ = some (.int .i64 d) := (by rw [hb4.cell (Nat.lt_of_lt_of_le GX.out H3.out.size)]; exact K20.out); have hk1 : w4.cell? ⟨wr.heap.size, 1, none⟩ = some (.int .i64 at') := (by rw [hb4.cell (Nat.lt_of_lt_of_le GX.out H3.out.size)]; exact K21.out); have H4 := Lib.hid hb4; clear hb4))
      have HL4 := Lib.hid ((HL.out.trans (HX.out.mono HL.out.size)).trans (((Below.refl wr.heap.size wx).drew.trans ((H3.out.mono (Nat.le_of_lt GX.out)).trans (H4.out.mono (Nat.le_trans (Nat.le_of_lt GX.out) H3.out.size)))).mono HL.out.size))
      have HG4 : Hid (∀ j v, (#[.slice (some ⟨b, off, none⟩) l.length cap, .int .i64 n, .int .i64 m, .string s] : Array Value)[j]? = some v → w4.cell? ⟨w.heap.size, j, none⟩ = some v) := fun j v hj => by
        have h := ((HX.out.trans ((Below.refl wr.heap.size wx).drew)).trans ((H3.out.mono (Nat.le_of_lt GX.out)).trans (H4.out.mono (Nat.le_trans (Nat.le_of_lt GX.out) H3.out.size)))).cell (p := ⟨w.heap.size, j, none⟩) HZ.out
        rw [h]; exact HG.out j v hj
      have HZ4 : Hid (w.heap.size < w4.heap.size) := Nat.lt_of_lt_of_le (Nat.lt_trans HZ.out GX.out) (Nat.le_trans H3.out.size H4.out.size)
      clear hk0 hk1 q1 q2 hp1 hp2
      go_wp2
      go_roundw
      case rel => exact ⟨k + 1, by omega, by go_num, by rw [HT.out], HL4, HZ4, HG4⟩
      case measure => simp [intOf]; omega
    · have hkl : k = l.length := by omega
      subst hkl
      rw [List.take_length]
      have hk1 : wr.cell? ⟨w.heap.size, 1, none⟩ = some (.int .i64 n) := HG.out 1 _ rfl
      have hk2 : wr.cell? ⟨w.heap.size, 2, none⟩ = some (.int .i64 m) := HG.out 2 _ rfl
      have hk3 : wr.cell? ⟨w.heap.size, 3, none⟩ = some (.string s) := HG.out 3 _ rfl
      have hs1 := locsK_size acc l
      have hs2 := HS.out
      have hs3 : (locsK acc l).size ≤ 20000 := by omega
      clear hs1 hs2
      generalize locsK acc l = t at *
      have hp1 := putB_size n 2
      have hp2 := putB_size m 6
      have q1 : ¬ 9223372036854775807 < t.size + (putB n 2).size := by omega
      have q2 : ¬ 9223372036854775807 < t.size + (putB n 2).size + (putB m 6).size := by omega
      have q3 : ¬ 9223372036854775807 < t.size + (putB n 2).size + (putB m 6).size + s.size := by omega
      have q4 : (t ++ putB n 2).size = t.size + (putB n 2).size := ByteArray.size_append
      have q5 : (t ++ putB n 2 ++ putB m 6).size = t.size + (putB n 2).size + (putB m 6).size := by rw [ByteArray.size_append, q4]
      clear H HC HO hs32
      go_wp2_with fail
      go_region_held3 (fun w' => w'.cell? ⟨w.heap.size, 1, none⟩ = some (.int .i64 n) ∧ w'.cell? ⟨w.heap.size, 2, none⟩ = some (.int .i64 m) ∧ w'.cell? ⟨w.heap.size, 3, none⟩ = some (.string s)) (first | go_keep | exact hk1 | exact hk2 | exact hk3)
        (first
          | (go_at_call_of 60 (Value.int .i64 n); refine (put_any n 2 _).mono ?_; rintro e w3 ⟨rfl, hb3⟩; have hc := fun j v (h : (#[.slice a l.length cap, .int .i64 n, .int .i64 m, .string s] : Array Value)[j]? = some v) => (hb3.cell (p := ⟨w.heap.size, j, none⟩) HZ.out).trans (HG.out j v h); have hk1 : w3.cell? ⟨w.heap.size, 1, none⟩ = some (.int .i64 n) := hc 1 _ rfl; have hk2 : w3.cell? ⟨w.heap.size, 2, none⟩ = some (.int .i64 m) := hc 2 _ rfl; have hk3 : w3.cell? ⟨w.heap.size, 3, none⟩ = some (.string s) := hc 3 _ rfl; have H3 := Lib.hid hb3; have C3 := Lib.hid hc; clear hb3 hc)
          | (go_at_call_of 60 (Value.int .i64 m); refine (put_any m 6 _).mono ?_; rintro e w4 ⟨rfl, hb4⟩; have hc := fun j v h => (hb4.cell (p := ⟨w.heap.size, j, none⟩) (Nat.lt_of_lt_of_le HZ.out H3.out.size)).trans (C3.out j v h); have hk1 : w4.cell? ⟨w.heap.size, 1, none⟩ = some (.int .i64 n) := hc 1 _ rfl; have hk2 : w4.cell? ⟨w.heap.size, 2, none⟩ = some (.int .i64 m) := hc 2 _ rfl; have hk3 : w4.cell? ⟨w.heap.size, 3, none⟩ = some (.string s) := hc 3 _ rfl; have H4 := Lib.hid hb4; clear hb4 hc))
      have HF := Lib.hid (HL.out.trans (((Below.refl wr.heap.size wr).drew.trans (H3.out.trans (H4.out.mono H3.out.size))).mono HL.out.size))
      clear hk1 hk2 hk3
      go_wp2
      go_ret2
      exact ⟨by rw [HA.out]; rfl, HF.out⟩

theorem encode_any (a : Option Addr) (cap : Nat) (p : PtrD) (w : World) (h : SlP w a p.locs) (hl : p.locs.length ≤ 1000) :
    Calls Try.prog 34 #[ptrV a cap p] w fun e w' => e = .returned (.tuple #[.string (if badP p then ⟨#[]⟩ else encB p), .int .i64 (chkP p)]) ∧ Below w.heap.size w w' := by
  unfold chkP
  by_cases hb : badP p
  · rw [if_pos hb, if_pos hb]; exact encode_bad a cap p w h hl hb
  · rw [if_neg hb, if_neg hb]; exact encode_ok a cap p w h hl hb
end Go.Proofs.Ytbdnkmkagglmhaa
