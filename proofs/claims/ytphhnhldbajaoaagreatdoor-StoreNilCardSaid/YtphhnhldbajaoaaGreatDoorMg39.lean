/-
  Texts put together: PtrPlain, RMost, RPut, RefPut, PtrEnc, StQ, StR.
-/
import Derived.Test.YtphhnhldbajaoaaGreatDoorMg12
import Derived.Test.YtphhnhldbajaoaaGreatDoorMg20
import Derived.Test.YtphhnhldbajaoaaGreatDoorMg19
import Derived.Deep.RegionHeld3
import Derived.Deep.QuietTactic
import Derived.Test.YtphhnhldbajaoaaGreatDoorMg38
import Derived.Test.YtphhnhldbajaoaaGreatDoorMg36
import Derived.Test.YtphhnhldbajaoaaGreatDoorMg25
namespace Go.Proofs.YtphhnhldbajaoaaGreatDoor
open Go.RowKit

def locB (x : Int × Int) : ByteArray := putB x.1 1 ++ putB x.2 2
/-- A pointer's text. -/
def encB (p : PtrD) : ByteArray := p.locs.foldl (fun s x => s ++ locB x) (putB p.locs.length 1) ++ putB p.len 2 ++ putB p.birth 6 ++ p.sum
end Go.Proofs.YtphhnhldbajaoaaGreatDoor

namespace Go.Proofs.YtphhnhldbajaoaaGreatDoor
open Go.RowKit

theorem rmost_any (n : Int) (w : World) : Calls Tryz.prog 72 #[.int .i64 n] w fun e w' => e = .returned (.int .i64 (mostI n)) ∧ w = w' := by
  by_cases h : 1 ≤ n ∧ n ≤ 7
  · have hk : ∃ k : Nat, n = k ∧ 1 ≤ k ∧ k ≤ 7 := ⟨n.toNat, by omega, by omega, by omega⟩
    obtain ⟨k, rfl, hk1, hk7⟩ := hk
    go_enter Tryz.func72, Tryz.ntmps72
    go_wp2
    go_loop [3, 4] (fun n i => ∃ j : Nat, j ≤ k ∧ i = .int .i64 j ∧ n = .int .i64 ((256 : Int) ^ j)) (fun _ i => k - (RowKit.intOf i).toNat)
    case atStart => exact ⟨0, Nat.zero_le _, rfl, rfl⟩
    case round =>
      obtain ⟨j, hj, rfl, rfl⟩ := hrel
      by_cases hlt : j < k
      · have hb := p256 j (by omega)
        have hs : Hid ((256 : Int) ^ j * 256 = (256 : Int) ^ (j + 1)) := (Int.pow_succ 256 j).symm
        go_wp2
        go_round
        case rel => exact ⟨j + 1, by omega, by go_num, by rw [hs.out]⟩
        case measure => simp [RowKit.intOf]; omega
      · have hb := p256' j (by omega)
        have hjk : Hid (j = k) := by show j = k; omega
        go_wp2
        go_ret
        exact ⟨ret_int (by unfold mostI; rw [if_pos (by omega), hjk.out, Int.toNat_natCast]), rfl⟩
  · have e1 : mostI n = -1 := by unfold mostI; rw [if_neg h]
    rw [e1]
    clear e1
    by_cases h1 : n < 1
    · go_enter Tryz.func72, Tryz.ntmps72
      go_wp2
      go_ret
      exact ⟨rfl, rfl⟩
    · have h2 : 7 < n := by omega
      go_enter Tryz.func72, Tryz.ntmps72
      go_wp2
      go_ret
      exact ⟨rfl, rfl⟩
end Go.Proofs.YtphhnhldbajaoaaGreatDoor

namespace Go.Proofs.YtphhnhldbajaoaaGreatDoor
open Go.RowKit

end Go.Proofs.YtphhnhldbajaoaaGreatDoor

namespace Go.Proofs.YtphhnhldbajaoaaGreatDoor
open Go.RowKit

end Go.Proofs.YtphhnhldbajaoaaGreatDoor

namespace Go.Proofs.YtphhnhldbajaoaaGreatDoor
open Go.RowKit

def locsK (acc : ByteArray) (l : List (Int × Int)) : ByteArray := l.foldl (fun s x => s ++ locB x) acc
theorem locsK_snoc (acc : ByteArray) (l : List (Int × Int)) (k : Nat) (h : k < l.length) : locsK acc (l.take (k + 1)) = locsK acc (l.take k) ++ (putB (l[k]).1 1 ++ putB (l[k]).2 2) := by
  rw [List.take_succ_eq_append_getElem h]
  unfold locsK
  rw [List.foldl_append]
  rfl
theorem locsK_size (acc : ByteArray) : ∀ l : List (Int × Int), (locsK acc l).size ≤ acc.size + 14 * l.length := by
  intro l
  induction l generalizing acc with
  | nil => simp [locsK]
  | cons x r ih =>
    have h1 := ih (acc ++ locB x)
    have h2 := putB_size x.1 1
    have h3 := putB_size x.2 2
    have h4 : (acc ++ locB x).size ≤ acc.size + 14 := by rw [locB, ByteArray.size_append, ByteArray.size_append]; omega
    show (locsK (acc ++ locB x) r).size ≤ _
    simp only [List.length_cons]
    omega
theorem encB_eq (l : List (Int × Int)) (n m : Int) (s : ByteArray) : encB ⟨l, n, m, s⟩ = locsK (putB l.length 1) l ++ putB n 2 ++ putB m 6 ++ s := rfl

theorem encode_bad (a : Option Addr) (cap : Nat) (p : PtrD) (w : World) (h : SlP w a p.locs) (hl : p.locs.length ≤ 1000) (hbad : badP p) :
    Calls Tryz.prog 65 #[ptrV a cap p] w fun e w' => e = .returned (.tuple #[.string ⟨#[]⟩, .int .i64 1]) ∧ Below w.heap.size w w' := by
  have H := Lib.hid h
  clear h
  have HC : Hid (chkP p = 1) := if_pos hbad
  clear hbad
  unfold ptrV
  have HV : Hid (Value.agg #[.slice a p.locs.length cap, .int .i64 p.len, .int .i64 p.birth, .string p.sum] = ptrV a cap p) := rfl
  go_enter Tryz.func65, Tryz.ntmps65
  go_wp2_with fail
  refine (check_any a cap p _ (H.out.keep ((Below.refl _ _).alloc (Nat.le_refl _) _)) hl).mono ?_
  rintro e w1 ⟨rfl, hb⟩
  rw [HC.out]
  have HB := Lib.hid (((Below.refl w.heap.size w).alloc (Nat.le_refl _) _).trans (hb.mono (by rw [size_alloc]; omega)))
  clear hb
  go_wp2
  go_ret2
  exact ⟨rfl, HB.out⟩
set_option maxHeartbeats 1000000 in
theorem encode_ok (a : Option Addr) (cap : Nat) (p : PtrD) (w : World) (h : SlP w a p.locs) (hl : p.locs.length ≤ 1000) (hok : ¬ badP p) :
    Calls Tryz.prog 65 #[ptrV a cap p] w fun e w' => e = .returned (.tuple #[.string (encB p), .int .i64 0]) ∧ Below w.heap.size w w' := by
  have H := Lib.hid h
  clear h
  have HC : Hid (chkP p = 0) := if_neg hok
  have HO := Lib.hid hok
  clear hok
  obtain ⟨l, n, m, s⟩ := p
  unfold ptrV
  simp only at *
  go_enter Tryz.func65, Tryz.ntmps65
  go_wp2_with fail
  refine (check_any a cap ⟨l, n, m, s⟩ _ (H.out.keep ((Below.refl _ _).alloc (Nat.le_refl _) _)) hl).mono ?_
  rintro e w1 ⟨rfl, hb⟩
  rw [HC.out]
  have HB := Lib.hid (((Below.refl w.heap.size w).alloc (Nat.le_refl _) _).trans (hb.mono (by rw [size_alloc]; omega)))
  have HG := Lib.hid (fun j v => boxed (cs := #[.slice a l.length cap, .int .i64 n, .int .i64 m, .string s]) hb (by rw [size_alloc]; omega) j v)
  have hz : w.heap.size < w1.heap.size := by have := hb.size; rw [size_alloc] at this; omega
  have g0 := HG.out 0 _ rfl
  clear hb
  go_wp2_with fail
  refine (put_any l.length 1 _).mono ?_
  rintro e w2 ⟨rfl, hb⟩
  have HB2 := Lib.hid (HB.out.trans (hb.mono HB.out.size))
  have HG2 : Hid (∀ j v, (#[.slice a l.length cap, .int .i64 n, .int .i64 m, .string s] : Array Value)[j]? = some v → w2.cell? ⟨w.heap.size, j, none⟩ = some v) := fun j v hj => by rw [hb.cell hz]; exact HG.out j v hj
  have hz2 : w.heap.size < w2.heap.size := by have := hb.size; omega
  clear hb g0 HG hz HB
  have g0 := HG2.out 0 _ rfl
  have HS := Lib.hid (putB_size l.length 1)
  have hs32 : s.size = 32 := by
    have h := HO.out
    by_cases h6 : s.size = 32
    · exact h6
    · exact absurd (Or.inr (Or.inr (Or.inr (Or.inr (Or.inr h6))))) h
  obtain ⟨acc, hacc⟩ : ∃ acc, acc = putB l.length 1 := ⟨_, rfl⟩
  rw [← hacc] at HS ⊢
  have HA : Hid (encB ⟨l, n, m, s⟩ = locsK acc l ++ putB n 2 ++ putB m 6 ++ s) := by show _ = _; rw [encB_eq, hacc]
  clear hacc
  go_wp2
  go_loopw [5, 7, 20] (fun sv _ i wr => ∃ k : Nat, k ≤ l.length ∧ i = .int .i64 k ∧ sv = .string (locsK acc (l.take k)) ∧ Hid (Below w.heap.size w wr) ∧ Hid (w.heap.size < wr.heap.size) ∧ Hid (∀ j v, (#[.slice a l.length cap, .int .i64 n, .int .i64 m, .string s] : Array Value)[j]? = some v → wr.cell? ⟨w.heap.size, j, none⟩ = some v)) (fun _ _ i _ => l.length - (intOf i).toNat)
  case atStart => exact ⟨0, Nat.zero_le _, rfl, rfl, HB2, hz2, HG2⟩
  case round =>
    obtain ⟨k, hk, rfl, rfl, HL, HZ, HG⟩ := hrel
    clear HB2 HG2 hz2 g0
    by_cases hlt : k < l.length
    · obtain ⟨b, off, rfl, hb, hc0, hc1⟩ := (H.out.keep HL.out).get k hlt
      have HT := Lib.hid (locsK_snoc acc l k hlt)
      have hs1 := locsK_size acc (l.take k)
      have hs2 := HS.out
      rw [List.length_take] at hs1
      have hs3 : (locsK acc (l.take k)).size ≤ 20000 := by omega
      clear hs1 hs2
      generalize l[k] = x at *
      obtain ⟨d, at'⟩ := x
      simp only at hc0 hc1
      generalize locsK acc (l.take k) = t at *
      have hp1 := putB_size d 1
      have hp2 := putB_size at' 2
      go_wp2_with fail
      generalize hwx : wr.alloc _ = wx
      have hk0 : wx.cell? ⟨wr.heap.size, 0, none⟩ = some (.int .i64 d) := by rw [← hwx]; exact boxed0 wr _ _ _ 0 _ rfl
      have hk1 : wx.cell? ⟨wr.heap.size, 1, none⟩ = some (.int .i64 at') := by rw [← hwx]; exact boxed0 wr _ _ _ 1 _ rfl
      have hgx : wr.heap.size < wx.heap.size := by rw [← hwx, size_alloc]; omega
      have HX : Hid (Below wr.heap.size wr wx) := by show Below _ _ _; rw [← hwx]; exact (Below.refl _ _).alloc (Nat.le_refl _) _
      have K0 := Lib.hid hk0
      have K1 := Lib.hid hk1
      have GX := Lib.hid hgx
      have q1 : ¬ 9223372036854775807 < (putB d 1).size + (putB at' 2).size := by omega
      have q2 : ¬ 9223372036854775807 < t.size + ((putB d 1).size + (putB at' 2).size) := by omega
      clear hwx hb hc0 hc1 hgx
      go_region_held3 (fun w' => w'.cell? ⟨wr.heap.size, 0, none⟩ = some (.int .i64 d) ∧ w'.cell? ⟨wr.heap.size, 1, none⟩ = some (.int .i64 at')) (first | go_keep | exact hk0 | exact hk1)
        (first
          | (go_at_call_of 107 (Value.int .i64 d); refine (put_any d 1 _).mono ?_; rintro e w3 ⟨rfl, hb3⟩; have hk0 : w3.cell? ⟨wr.heap.size, 0, none⟩ = some (.int .i64 d) := (by rw [hb3.cell GX.out]; exact K0.out); have hk1 : w3.cell? ⟨wr.heap.size, 1, none⟩ = some (.int .i64 at') := (by rw [hb3.cell GX.out]; exact K1.out); have H3 := Lib.hid hb3; have K20 := Lib.hid hk0; have K21 := Lib.hid hk1; clear hb3)
          | (go_at_call_of 107 (Value.int .i64 at'); refine (put_any at' 2 _).mono ?_; rintro e w4 ⟨rfl, hb4⟩; have hk0 : w4.cell? ⟨wr.heap.size, 0, none⟩ = some (.int .i64 d) := (by rw [hb4.cell (Nat.lt_of_lt_of_le GX.out H3.out.size)]; exact K20.out); have hk1 : w4.cell? ⟨wr.heap.size, 1, none⟩ = some (.int .i64 at') := (by rw [hb4.cell (Nat.lt_of_lt_of_le GX.out H3.out.size)]; exact K21.out); have H4 := Lib.hid hb4; clear hb4))
      have HL4 := Lib.hid ((HL.out.trans (HX.out.mono HL.out.size)).trans (((Below.refl wr.heap.size wx).drew.trans ((H3.out.mono (Nat.le_of_lt GX.out)).trans (H4.out.mono (Nat.le_trans (Nat.le_of_lt GX.out) H3.out.size)))).mono HL.out.size))
      have HG4 : Hid (∀ j v, (#[.slice (some ⟨b, off, none⟩) l.length cap, .int .i64 n, .int .i64 m, .string s] : Array Value)[j]? = some v → w4.cell? ⟨w.heap.size, j, none⟩ = some v) := fun j v hj => by
        have h := ((HX.out.trans ((Below.refl wr.heap.size wx).drew)).trans ((H3.out.mono (Nat.le_of_lt GX.out)).trans (H4.out.mono (Nat.le_trans (Nat.le_of_lt GX.out) H3.out.size)))).cell (p := ⟨w.heap.size, j, none⟩) HZ.out
        rw [h]; exact HG.out j v hj
      have HZ4 : Hid (w.heap.size < w4.heap.size) := Nat.lt_of_lt_of_le (Nat.lt_trans HZ.out GX.out) (Nat.le_trans H3.out.size H4.out.size)
      clear hk0 hk1 q1 q2 hp1 hp2
      go_wp2
      go_roundw
      case rel => exact ⟨k + 1, by omega, by go_num, by rw [HT.out], HL4, HZ4, HG4⟩
      case measure => simp [intOf]; omega
    · have hkl : k = l.length := by omega
      subst hkl
      rw [List.take_length]
      have hk1 : wr.cell? ⟨w.heap.size, 1, none⟩ = some (.int .i64 n) := HG.out 1 _ rfl
      have hk2 : wr.cell? ⟨w.heap.size, 2, none⟩ = some (.int .i64 m) := HG.out 2 _ rfl
      have hk3 : wr.cell? ⟨w.heap.size, 3, none⟩ = some (.string s) := HG.out 3 _ rfl
      have hs1 := locsK_size acc l
      have hs2 := HS.out
      have hs3 : (locsK acc l).size ≤ 20000 := by omega
      clear hs1 hs2
      generalize locsK acc l = t at *
      have hp1 := putB_size n 2
      have hp2 := putB_size m 6
      have q1 : ¬ 9223372036854775807 < t.size + (putB n 2).size := by omega
      have q2 : ¬ 9223372036854775807 < t.size + (putB n 2).size + (putB m 6).size := by omega
      have q3 : ¬ 9223372036854775807 < t.size + (putB n 2).size + (putB m 6).size + s.size := by omega
      have q4 : (t ++ putB n 2).size = t.size + (putB n 2).size := ByteArray.size_append
      have q5 : (t ++ putB n 2 ++ putB m 6).size = t.size + (putB n 2).size + (putB m 6).size := by rw [ByteArray.size_append, q4]
      clear H HC HO hs32
      go_wp2_with fail
      go_region_held3 (fun w' => w'.cell? ⟨w.heap.size, 1, none⟩ = some (.int .i64 n) ∧ w'.cell? ⟨w.heap.size, 2, none⟩ = some (.int .i64 m) ∧ w'.cell? ⟨w.heap.size, 3, none⟩ = some (.string s)) (first | go_keep | exact hk1 | exact hk2 | exact hk3)
        (first
          | (go_at_call_of 107 (Value.int .i64 n); refine (put_any n 2 _).mono ?_; rintro e w3 ⟨rfl, hb3⟩; have hc := fun j v (h : (#[.slice a l.length cap, .int .i64 n, .int .i64 m, .string s] : Array Value)[j]? = some v) => (hb3.cell (p := ⟨w.heap.size, j, none⟩) HZ.out).trans (HG.out j v h); have hk1 : w3.cell? ⟨w.heap.size, 1, none⟩ = some (.int .i64 n) := hc 1 _ rfl; have hk2 : w3.cell? ⟨w.heap.size, 2, none⟩ = some (.int .i64 m) := hc 2 _ rfl; have hk3 : w3.cell? ⟨w.heap.size, 3, none⟩ = some (.string s) := hc 3 _ rfl; have H3 := Lib.hid hb3; have C3 := Lib.hid hc; clear hb3 hc)
          | (go_at_call_of 107 (Value.int .i64 m); refine (put_any m 6 _).mono ?_; rintro e w4 ⟨rfl, hb4⟩; have hc := fun j v h => (hb4.cell (p := ⟨w.heap.size, j, none⟩) (Nat.lt_of_lt_of_le HZ.out H3.out.size)).trans (C3.out j v h); have hk1 : w4.cell? ⟨w.heap.size, 1, none⟩ = some (.int .i64 n) := hc 1 _ rfl; have hk2 : w4.cell? ⟨w.heap.size, 2, none⟩ = some (.int .i64 m) := hc 2 _ rfl; have hk3 : w4.cell? ⟨w.heap.size, 3, none⟩ = some (.string s) := hc 3 _ rfl; have H4 := Lib.hid hb4; clear hb4 hc))
      have HF := Lib.hid (HL.out.trans (((Below.refl wr.heap.size wr).drew.trans (H3.out.trans (H4.out.mono H3.out.size))).mono HL.out.size))
      clear hk1 hk2 hk3
      go_wp2
      go_ret2
      exact ⟨by rw [HA.out]; rfl, HF.out⟩

theorem encode_any (a : Option Addr) (cap : Nat) (p : PtrD) (w : World) (h : SlP w a p.locs) (hl : p.locs.length ≤ 1000) :
    Calls Tryz.prog 65 #[ptrV a cap p] w fun e w' => e = .returned (.tuple #[.string (if badP p then ⟨#[]⟩ else encB p), .int .i64 (chkP p)]) ∧ Below w.heap.size w w' := by
  unfold chkP
  by_cases hb : badP p
  · rw [if_pos hb, if_pos hb]; exact encode_bad a cap p w h hl hb
  · rw [if_neg hb, if_neg hb]; exact encode_ok a cap p w h hl hb
end Go.Proofs.YtphhnhldbajaoaaGreatDoor

namespace Go.Proofs.YtphhnhldbajaoaaGreatDoor
open Go Go.RowKit Go.ChangeShapes Go.WideShapes Go.ChangeAt

/-- Some of what is owned. -/
theorem alls_sub {l m : List (List Nat → World → Prop)} (h : m.Sublist l) : ∀ {G : List Nat} {w : World}, Alls l G w → ∃ G', Alls m G' w ∧ ∀ k ∈ G', k ∈ G := by
  induction h with
  | slnil => intro G w h; exact ⟨G, h, fun _ h => h⟩
  | cons x _ ih =>
    rintro G w ⟨G1, G2, rfl, h1, h2, h3⟩
    obtain ⟨G', k1, k2⟩ := ih h2
    exact ⟨G', k1, fun k hk => List.mem_append_right _ (k2 k hk)⟩
  | cons_cons x _ ih =>
    rintro G w ⟨G1, G2, rfl, h1, h2, h3⟩
    obtain ⟨G', k1, k2⟩ := ih h2
    refine ⟨G1 ++ G', ⟨G1, G', rfl, h1, k1, fun k hk hm => h3 k hk (k2 k hm)⟩, fun k hk => ?_⟩
    rcases List.mem_append.1 hk with h | h
    · exact List.mem_append_left _ h
    · exact List.mem_append_right _ (k2 k h)
theorem Own.subl {B : Nat} {l m : List (List Nat → World → Prop)} {w : World} (h : Own B l w) (hs : m.Sublist l) : Own B m w := by
  obtain ⟨hz, G, h1, h2⟩ := h
  obtain ⟨G', k1, k2⟩ := alls_sub hs h1
  exact ⟨hz, G', k1, fun k hk => h2 k (k2 k hk)⟩
/-- A row of places that grows. -/
def LcF (v : Value) (l : List (Int × Int)) (G : List Nat) (w : World) : Prop := G = v.ownBlock.toList ∧ ∃ base, base ≤ w.heap.size ∧ Prs w base v l
theorem fixed_lc (v : Value) (l : List (Int × Int)) : Fixed (LcF v l) := by
  refine ⟨?_, ?_⟩
  · rintro G S w1 w2 ⟨rfl, base, hb, h⟩ hc hn
    exact ⟨rfl, base, Nat.le_trans hb hc.size, ownsRow_of h fun k hk hlt => hc.block k hlt (hn k (by rw [Option.mem_toList]; exact hk))⟩
  · rintro G w ⟨rfl, base, _, h⟩ k hk
    rw [Option.mem_toList] at hk
    exact (World.ownsRow.lt h k hk).2
/-- 'append(locs, l)'. -/
theorem wp_lc_push {ops : Array Oper} {rest : List Oper} {o : Oper} {a : Act} {Q : Exit → Act → World → Prop} {B : Nat} {L : List (List Nat → World → Prop)} {v : Value} {l : List (Int × Int)} (W : World) (hL : AllF L) (hb : Own B (LcF v l :: L) W) (hgd : o.guard = none) (s x : Operand)
    (ho : o.op = .call { callee := .builtin .append, args := #[s, x], argTypes := #[24, 24] })
    (hs : a.eval s = v)
    (ad : Addr) (c : Nat) (p : Int × Int) (hx : a.eval x = .slice (some ad) 1 c) (hcell : ∀ j u, (PrV p)[j]? = some u → W.cell? (ad.add j) = some u)
    (hbytes : l.length ≤ 100000)
    (h : ∀ v' w', Own B (LcF v' (l ++ [p]) :: L) w' → (v'.ownBlock = v.ownBlock ∨ v'.ownBlock = some W.heap.size) → Chg v.ownBlock.toList W w' → wpList Tryz.prog ops Q rest (a.put o.dst v') w') : wpList Tryz.prog ops Q (o :: rest) a W := by
  obtain ⟨F, ⟨hF, base, hbase, hp⟩, _⟩ := hb.fst
  obtain ⟨i0, hi, hz0, hz1, hz2⟩ := info_parts infoLoc
  refine wpList_append_own_at (w := W) hgd s x 24 ho base 47 i0 (.agg #[.int .i64 0, .int .i64 0]) 2 16 Tryz.underlying24 hi hz0 hz1 hz2 rfl (by decide) v l.length _ hs hp ad 1 c (PrV p) hx rfl hcell ?_ (by unfold maxLen; omega) (by omega) hbase ?_
  · intro u hu
    simp [PrV] at hu
    rcases hu with rfl | rfl <;> rfl
  · intro v' w' h1 h2 _ h4
    have hc : Chg v.ownBlock.toList W w' := Chg.grown h2 (fun k hk => by rw [Option.mem_toList]; exact hk)
    have h5 : Prs w' base v' (l ++ [p]) := by
      unfold Prs
      rw [List.flatMap_append, List.length_append]
      exact h1
    refine h v' w' ((hb.onto (Q' := LcF v' (l ++ [p])) hL fun F hF => ⟨v'.ownBlock.toList, ⟨rfl, base, Nat.le_trans hbase hc.size, h5⟩, by rw [hF.1]; exact hc, fun k hk => ?_⟩).1) h4 hc
    rw [Option.mem_toList] at hk
    rw [hF.1, Option.mem_toList]
    rcases h4 with h4 | h4
    · rw [← h4]; exact .inl hk
    · rw [h4] at hk
      injection hk with hk
      exact .inr (by omega)
/-- The first place that may be taken. -/
def tkS (σ : StD) (side : Int) : Option Nat := if devLost σ.d side = true then none else fstF (if side = 0 then σ.u0 else σ.u1)
def setF (f : List Bool × List Bool) (side : Int) (u : List Bool) : List Bool × List Bool := if side = 0 then (u, f.2) else (f.1, u)
/-- One of each. -/
def takesS (σ : StD) : List Int → List Bool × List Bool → List (Int × Int) → Option ((List Bool × List Bool) × List (Int × Int))
  | [], f, acc => some (f, acc)
  | side :: r, f, acc => match tkS σ side with
    | none => none
    | some i => takesS σ r (setF f side ((if side = 0 then σ.u0 else σ.u1).set i true)) (acc ++ [(side, (i : Int))])
/-- What PutOn answers, and what becomes of the store. -/
def putOnS (σ : StD) (t : ByteArray) (devs : List Int) : (ByteArray × Int) × StD :=
  if ¬ (t.size ≤ 960 ∧ holdT devs = true) then ((⟨#[]⟩, 1), σ) else
  match takesS σ devs (σ.u0, σ.u1) [] with
  | none => ((⟨#[]⟩, 6), σ)
  | some (f, locs) => ((encB (wrP locs t σ.txg), 0), { σ with u0 := f.1, u1 := f.2, d := wrB σ.d locs t })
theorem hold_cases {l : List Int} (h : holdT l = true) : l = [0] ∨ l = [1] ∨ l = [0, 1] ∨ l = [1, 0] := by
  unfold holdT at h
  split at h
  · cases h
  · next hne =>
    rw [Bool.and_eq_true, Bool.or_eq_true, decide_eq_true_eq, decide_eq_true_eq] at h
    obtain ⟨h1, h2⟩ := h
    have h3 : ∀ x ∈ l, x = 0 ∨ x = 1 := fun x hx => by
      have h4 : l.any noneS = false := by simpa using h2
      rw [List.any_eq_false] at h4
      have h5 := h4 x hx
      unfold noneS at h5
      simp at h5
      omega
    match l, h1, h3 with
    | [a], _, h3 =>
      rcases h3 a (by simp) with rfl | rfl
      · exact .inl rfl
      · exact .inr (.inl rfl)
    | [a, b], _, h3 =>
      have ha := h3 a (by simp)
      have hb := h3 b (by simp)
      have hab : ¬ a = b := fun e => hne ⟨rfl, e⟩
      rcases ha with rfl | rfl <;> rcases hb with rfl | rfl
      · exact absurd rfl hab
      · exact .inr (.inr (.inl rfl))
      · exact .inr (.inr (.inr rfl))
      · exact absurd rfl hab
    | [], h1, _ => simp at h1
    | _ :: _ :: _ :: _, h1, _ => simp at h1
theorem tk_lt {few : Nat} {σ : StD} (hw : WfS few σ) {side : Int} (hs : side = 0 ∨ side = 1) {i : Nat} (h : tkS σ side = some i) : i < devSize σ.d side ∧ devLost σ.d side = false ∧ (if side = 0 then σ.u0 else σ.u1).getD i true = false ∧ i < (if side = 0 then σ.u0 else σ.u1).length := by
  unfold tkS at h
  split at h
  · cases h
  · next hl =>
    obtain ⟨h1, h2, h3⟩ := fst_some h
    refine ⟨?_, by simpa using hl, h2, h1⟩
    rcases hs with rfl | rfl
    · rw [if_pos rfl] at h1; rw [hw.r0] at h1; exact h1
    · rw [if_neg (by decide)] at h1; rw [hw.r1] at h1; exact h1
/-- What is taken lies on the devices, each on another, and none is lost. -/
def TknS (σ : StD) (devs : List Int) (locs : List (Int × Int)) : Prop := locs.map Prod.fst = devs ∧ ∀ x ∈ locs, (x.1 = 0 ∨ x.1 = 1) ∧ 0 ≤ x.2 ∧ x.2 < devSize σ.d x.1 ∧ devLost σ.d x.1 = false
theorem takes_is {few : Nat} {σ : StD} (hw : WfS few σ) : ∀ (devs : List Int) {f : List Bool × List Bool} {acc : List (Int × Int)} {r : (List Bool × List Bool) × List (Int × Int)}, (∀ x ∈ devs, x = 0 ∨ x = 1) → takesS σ devs f acc = some r → ∃ more, r.2 = acc ++ more ∧ TknS σ devs more
  | [], f, acc, r, _, h => by
    unfold takesS at h
    injection h with h
    rw [← h]
    exact ⟨[], by simp, rfl, fun x hx => by cases hx⟩
  | side :: devs, f, acc, r, hd, h => by
    unfold takesS at h
    split at h
    · cases h
    · next i hi =>
      have hs := hd side (by simp)
      obtain ⟨t1, t2, _, _⟩ := tk_lt hw hs hi
      obtain ⟨more, e, m1, m2⟩ := takes_is hw devs (fun x hx => hd x (List.mem_cons_of_mem _ hx)) h
      refine ⟨(side, (i : Int)) :: more, by rw [e]; simp, by simp [m1], fun x hx => ?_⟩
      rcases List.mem_cons.1 hx with rfl | hx
      · exact ⟨hs, by simp, by simp only; omega, t2⟩
      · exact m2 x hx
theorem takes_good {few : Nat} {σ : StD} (hw : WfS few σ) {devs : List Int} (hh : holdT devs = true) {t : ByteArray} (ht : t.size ≤ 960) {f : List Bool × List Bool} {locs : List (Int × Int)} (h : takesS σ devs (σ.u0, σ.u1) [] = some (f, locs)) :
    ¬ badP (wrP locs t σ.txg) ∧ locs.any (farW (devSize σ.d)) = false ∧ locs.any (fun l => devLost σ.d l.1) = false ∧ locs.length ≤ 2 := by
  have hd : ∀ x ∈ devs, x = 0 ∨ x = 1 := by
    rcases hold_cases hh with rfl | rfl | rfl | rfl <;> intro x hx <;> simp at hx <;> omega
  obtain ⟨more, e, m1, m2⟩ := takes_is hw devs hd h
  have e' : locs = more := e
  subst e'
  have hlen : locs.length = devs.length := by rw [← m1, List.length_map]
  have hlen2 : 1 ≤ locs.length ∧ locs.length ≤ 2 := by rw [hlen]; rcases hold_cases hh with rfl | rfl | rfl | rfl <;> decide
  refine ⟨?_, ?_, ?_, hlen2.2⟩
  · rintro (h1 | ⟨x, hx, h1⟩ | ⟨h1, h2⟩ | h1)
    · exact h1 hlen2
    · obtain ⟨a, b, c, _⟩ := m2 x hx
      have := hw.sz x.1
      rcases h1 with ⟨h2, h3⟩ | h1
      · rcases a with a | a
        · exact h2 a
        · exact h3 a
      · exact h1 ⟨b, by omega⟩
    · have h1 : locs.length = 2 := h1
      have h2 : (locs.getD 0 (0, 0)).1 = (locs.getD 1 (0, 0)).1 := h2
      match locs, h1, h2, m1 with
      | [a, b], _, h2, m1 =>
        have h2 : a.1 = b.1 := h2
        rcases hold_cases hh with rfl | rfl | rfl | rfl <;> simp at m1 <;> omega
    · rcases h1 with h1 | h1 | h1
      · exact h1 ⟨by show (0 : Int) ≤ (t.size : Int); omega, by show (t.size : Int) ≤ 960; omega⟩
      · exact h1 hw.txg
      · exact h1 (sha_size' t)
  · rw [List.any_eq_false]
    intro x hx
    obtain ⟨a, b, c, _⟩ := m2 x hx
    unfold farW
    rw [decide_eq_true_eq]
    omega
  · rw [List.any_eq_false]
    intro x hx
    obtain ⟨a, b, c, e⟩ := m2 x hx
    rw [e]
    simp
end Go.Proofs.YtphhnhldbajaoaaGreatDoor

namespace Go.Proofs.YtphhnhldbajaoaaGreatDoor
open Go Go.RowKit Go.ChangeShapes Go.WideShapes Go.ChangeAt

/-- What was taken so far: of which device, the runs behind it, and what is used then. -/
abbrev TkR := Int × Value × List Bool
def poV (v : Value × Value) (rs : List TkR) : Value × Value := rs.foldl (fun f r => if r.1 = 0 then (r.2.1, f.2) else (f.1, r.2.1)) v
def poU (f : List Bool × List Bool) (rs : List TkR) : List Bool × List Bool := rs.foldl (fun f r => setF f r.1 r.2.2) f
def rowX (r : TkR) : List Nat → World → Prop := RunF r.2.1 (ofL r.2.2)
theorem poV_snoc (v : Value × Value) (rs : List TkR) (r : TkR) : poV v (rs ++ [r]) = if r.1 = 0 then (r.2.1, (poV v rs).2) else ((poV v rs).1, r.2.1) := by unfold poV; rw [List.foldl_append]; rfl
theorem poU_snoc (v : List Bool × List Bool) (rs : List TkR) (r : TkR) : poU v (rs ++ [r]) = setF (poU v rs) r.1 r.2.2 := by unfold poU; rw [List.foldl_append]; rfl
theorem fixed_rows (rs : List TkR) : AllF (rs.map rowX) := fun P hP => by
  obtain ⟨r, _, rfl⟩ := List.mem_map.1 hP
  exact fixed_run _ _
/-- What PutOn owns beside the store. -/
abbrev poL (lv : Value) (acc : List (Int × Int)) (fb : Nat) (v : Value × Value) (rs : List TkR) (l : List (List Nat → World → Prop)) : List (List Nat → World → Prop) := LcF lv acc :: BoxP fb 87 #[(poV v rs).1, (poV v rs).2] :: (rs.map rowX ++ l)
theorem fixed_po {lv : Value} {acc : List (Int × Int)} {fb : Nat} {v : Value × Value} {rs : List TkR} {l : List (List Nat → World → Prop)} (hl : AllF l) : AllF (poL lv acc fb v rs l) := .cons (fixed_lc _ _) (.cons (fixed_box _ _ _) ((fixed_rows rs).append hl))
structure PoJ (B s : Nat) (p : StP) (σ : StD) (l : List (List Nat → World → Prop)) (devs : List Int) (R : Option ((List Bool × List Bool) × List (Int × Int))) (w : World) (fb k : Nat) (lv : Value) (rs : List TkR) (acc : List (Int × Int)) (W : World) : Prop where
  own : Own B (stL s p σ ++ poL lv acc fb (p.v0, p.v1) rs l) W
  bel : Below w.heap.size w W
  tks : takesS σ (devs.drop k) (poU (σ.u0, σ.u1) rs) acc = R
  sides : rs.map (·.1) = devs.take k
  len : acc.length = k
  lvn : ∀ j, lv.ownBlock = some j → w.heap.size ≤ j
  sl : (∃ a n c, (poV (p.v0, p.v1) rs).1 = .slice a n c) ∧ ∃ a n c, (poV (p.v0, p.v1) rs).2 = .slice a n c
section
variable {B : Nat} {l : List (List Nat → World → Prop)} {s : Nat} {p : StP} {σ : StD} {w : World}
/-- What may be taken, and what Take makes of it. -/
theorem sput_take {few : Nat} (h : Own B (stL s p σ ++ l) w) (hw : WfS few σ) {side : Int} (hs : side = 0 ∨ side = 1) : ∃ b0 lr, PrsS 139 w b0 (mayS (stV p σ) σ.d side) lr ∧ lr.length ≤ 1000 ∧ WfP lr ∧
    takeL lr 1 = match tkS σ side with | none => (0, [], false) | some i => ((i : Int), ofL ((if side = 0 then σ.u0 else σ.u1).set i true), true) := by
  obtain ⟨⟨b0, h0⟩, b1, h1⟩ := sto_runs h
  have z0 : σ.u0.length ≤ 1000 := by rw [hw.r0]; have := hw.sz 0; omega
  have z1 : σ.u1.length ≤ 1000 := by rw [hw.r1]; have := hw.sz 1; omega
  unfold mayS tkS
  cases devLost σ.d side
  · rcases hs with rfl | rfl
    · refine ⟨b0, ofL σ.u0, h0, Nat.le_trans (of_len _) z0, of_wf z0, ?_⟩
      rw [take_of z0]
      rfl
    · refine ⟨b1, ofL σ.u1, h1, Nat.le_trans (of_len _) z1, of_wf z1, ?_⟩
      rw [take_of z1]
      rfl
  · exact ⟨0, [], PrsS.nil _ _ _, Nat.zero_le _, (fun x hx => by cases hx), rfl⟩
theorem swrite_own {few : Nat} (hl : AllF l) (h : Own B (stL s p σ ++ l) w) (hw : WfS few σ) (hfew : few ≤ 9000) (hK : Kt w) (hB : 0 < B) {lv : Value} {acc : List (Int × Int)} (hacc : acc.length ≤ 2) {la : Option Addr} {lc : Nat} (_e : lv = .slice la acc.length lc) (hs : SlP w la acc) {t : ByteArray} (ht : t.size ≤ 960)
    (hg : ¬ badP (wrP acc t σ.txg) ∧ acc.any (farW (devSize σ.d)) = false ∧ acc.any (fun l => devLost σ.d l.1) = false) :
    Calls Tryz.prog 64 #[.pointer (some ⟨p.db, 0, none⟩), .slice la acc.length lc, .string t, .int .i64 σ.txg] w fun e w' => ∃ a' c', e = .returned (.tuple #[ptrV a' c' (wrP acc t σ.txg), .int .i64 0]) ∧ Own B (stL s p { σ with d := wrB σ.d acc t } ++ LocP a' acc :: l) w' ∧ Below B w w' := by
  refine (bwrite_ok (sto_fix hl) (sto_one h) hB la lc acc t σ.txg (by omega) hs (by omega) hK hg.1 hg.2.1 hg.2.2 (by have := hw.waits; omega)).mono ?_
  rintro e w' ⟨a', c', rfl, h1, h2⟩
  refine ⟨a', c', rfl, ?_, h2⟩
  have h3 := Own.of_one2 h1
  have h4 := h3.back [LocP a' acc, BoxP s 93 (stV p σ).cells, RunF p.v0 (ofL σ.u0), RunF p.v1 (ofL σ.u1), ArcO p.av σ.a, MapF p.m σ.L, SecO p.cv p.db σ.c]
  exact h4.back [BoxP s 93 (stV p σ).cells, RunF p.v0 (ofL σ.u0), RunF p.v1 (ofL σ.u1), ArcO p.av σ.a, MapF p.m σ.L, SecO p.cv p.db σ.c, DevF p.db (wrB σ.d acc t)]
/-- A pointer is laid in its box. -/
theorem own_ptr {g : Nat} {L : List (List Nat → World → Prop)} {a b c d : Value} (hL : AllF L) (h : Own B (BoxP g 37 #[a, b, c, d] :: L) w) (x y z u : Value) : Own B (BoxP g 37 #[x, y, z, u] :: L) ((((w.setCell ⟨g, 0, none⟩ x).setCell ⟨g, 1, none⟩ y).setCell ⟨g, 2, none⟩ z).setCell ⟨g, 3, none⟩ u) ∧ Below B w ((((w.setCell ⟨g, 0, none⟩ x).setCell ⟨g, 1, none⟩ y).setCell ⟨g, 2, none⟩ z).setCell ⟨g, 3, none⟩ u) :=
  h.onto hL fun F hF => ⟨[g], ⟨rfl, box4 hF.2⟩, by rw [hF.1]; exact chg4, fun k hk => .inl (by rw [hF.1]; exact hk)⟩
/-- The end: what was taken is the store's. -/
theorem sput_done {devs : List Int} (hh : holdT devs = true) {d' : DevD} {a' : Option Addr} {acc : List (Int × Int)} {pb fb : Nat} {lv : Value} {cs : Array Value} {rs : List TkR} (hl : AllF l) (hs : rs.map (·.1) = devs)
    (h : Own B (stL s p { σ with d := d' } ++ LocP a' acc :: BoxP pb 37 cs :: poL lv acc fb (p.v0, p.v1) rs l) w) :
    Own B (stL s { p with v0 := (poV (p.v0, p.v1) rs).1, v1 := (poV (p.v0, p.v1) rs).2 } { σ with d := d', u0 := (poU (σ.u0, σ.u1) rs).1, u1 := (poU (σ.u0, σ.u1) rs).2 } ++ LocP a' acc :: l) ((w.setCell ⟨s, 7, none⟩ (poV (p.v0, p.v1) rs).1).setCell ⟨s, 8, none⟩ (poV (p.v0, p.v1) rs).2) ∧ Below B w ((w.setCell ⟨s, 7, none⟩ (poV (p.v0, p.v1) rs).1).setCell ⟨s, 8, none⟩ (poV (p.v0, p.v1) rs).2) ∧ Box ((w.setCell ⟨s, 7, none⟩ (poV (p.v0, p.v1) rs).1).setCell ⟨s, 8, none⟩ (poV (p.v0, p.v1) rs).2) pb 37 cs := by
  have hX : AllF ([RunF p.v0 (ofL σ.u0), RunF p.v1 (ofL σ.u1), ArcO p.av σ.a, MapF p.m σ.L, SecO p.cv p.db σ.c, DevF p.db d'] ++ LocP a' acc :: BoxP pb 37 cs :: poL lv acc fb (p.v0, p.v1) rs l) :=
    .append (.cons (fixed_run _ _) (.cons (fixed_run _ _) (.cons (fixed_arcO _ _) (.cons (fixed_map _ _) (.cons (fixed_secO _ _ _) (.cons (fixed_dev _ _) .nil)))))) (.cons (fixed_loc _ _) (.cons (fixed_box _ _ _) (fixed_po hl)))
  have h1 : Own B (BoxP s 93 (stV p { σ with d := d' }).cells :: ([RunF p.v0 (ofL σ.u0), RunF p.v1 (ofL σ.u1), ArcO p.av σ.a, MapF p.m σ.L, SecO p.cv p.db σ.c, DevF p.db d'] ++ LocP a' acc :: BoxP pb 37 cs :: poL lv acc fb (p.v0, p.v1) rs l)) w := h
  obtain ⟨h2, b2⟩ := h1.set hX 7 (poV (p.v0, p.v1) rs).1
  obtain ⟨h3, b3⟩ := h2.set hX 8 (poV (p.v0, p.v1) rs).2
  refine ⟨?_, b2.trans b3, ((h3.pick [BoxP s 93 (((stV p { σ with d := d' }).cells.setIfInBounds 7 (poV (p.v0, p.v1) rs).1).setIfInBounds 8 (poV (p.v0, p.v1) rs).2), RunF p.v0 (ofL σ.u0), RunF p.v1 (ofL σ.u1), ArcO p.av σ.a, MapF p.m σ.L, SecO p.cv p.db σ.c, DevF p.db d', LocP a' acc]).boxed)⟩
  clear h h1 h2 b2 b3 hX
  rcases hold_cases hh with rfl | rfl | rfl | rfl
  · match rs, hs with
    | [(a, v, u)], hs =>
      have ha : a = 0 := by simpa using hs
      subst ha
      have h4 := h3.pick [BoxP s 93 (((stV p { σ with d := d' }).cells.setIfInBounds 7 (poV (p.v0, p.v1) [(0, v, u)]).1).setIfInBounds 8 (poV (p.v0, p.v1) [(0, v, u)]).2), RunF p.v0 (ofL σ.u0), RunF p.v1 (ofL σ.u1), ArcO p.av σ.a, MapF p.m σ.L, SecO p.cv p.db σ.c, DevF p.db d', LocP a' acc, BoxP pb 37 cs, LcF lv acc, BoxP fb 87 #[(poV (p.v0, p.v1) [(0, v, u)]).1, (poV (p.v0, p.v1) [(0, v, u)]).2]] (Q := RunF v (ofL u)) (l2 := l)
      have h5 : Own B (RunF v (ofL u) :: BoxP s 93 (((stV p { σ with d := d' }).cells.setIfInBounds 7 (poV (p.v0, p.v1) [(0, v, u)]).1).setIfInBounds 8 (poV (p.v0, p.v1) [(0, v, u)]).2) :: RunF p.v1 (ofL σ.u1) :: ArcO p.av σ.a :: MapF p.m σ.L :: SecO p.cv p.db σ.c :: DevF p.db d' :: LocP a' acc :: l) _ := h4.subl (by repeat (first | exact List.Sublist.refl _ | apply List.Sublist.cons_cons | apply List.Sublist.cons))
      exact h5.back [BoxP s 93 (((stV p { σ with d := d' }).cells.setIfInBounds 7 (poV (p.v0, p.v1) [(0, v, u)]).1).setIfInBounds 8 (poV (p.v0, p.v1) [(0, v, u)]).2)]
    | [], hs => simp at hs
    | _ :: _ :: _, hs => simp at hs
  · match rs, hs with
    | [(a, v, u)], hs =>
      have ha : a = 1 := by simpa using hs
      subst ha
      have h4 := h3.pick [BoxP s 93 (((stV p { σ with d := d' }).cells.setIfInBounds 7 (poV (p.v0, p.v1) [(1, v, u)]).1).setIfInBounds 8 (poV (p.v0, p.v1) [(1, v, u)]).2), RunF p.v0 (ofL σ.u0), RunF p.v1 (ofL σ.u1), ArcO p.av σ.a, MapF p.m σ.L, SecO p.cv p.db σ.c, DevF p.db d', LocP a' acc, BoxP pb 37 cs, LcF lv acc, BoxP fb 87 #[(poV (p.v0, p.v1) [(1, v, u)]).1, (poV (p.v0, p.v1) [(1, v, u)]).2]] (Q := RunF v (ofL u)) (l2 := l)
      have h5 : Own B (RunF v (ofL u) :: BoxP s 93 (((stV p { σ with d := d' }).cells.setIfInBounds 7 (poV (p.v0, p.v1) [(1, v, u)]).1).setIfInBounds 8 (poV (p.v0, p.v1) [(1, v, u)]).2) :: RunF p.v0 (ofL σ.u0) :: ArcO p.av σ.a :: MapF p.m σ.L :: SecO p.cv p.db σ.c :: DevF p.db d' :: LocP a' acc :: l) _ := h4.subl (by repeat (first | exact List.Sublist.refl _ | apply List.Sublist.cons_cons | apply List.Sublist.cons))
      exact h5.back [BoxP s 93 (((stV p { σ with d := d' }).cells.setIfInBounds 7 (poV (p.v0, p.v1) [(1, v, u)]).1).setIfInBounds 8 (poV (p.v0, p.v1) [(1, v, u)]).2), RunF p.v0 (ofL σ.u0)]
    | [], hs => simp at hs
    | _ :: _ :: _, hs => simp at hs
  · match rs, hs with
    | [(a, v, u), (b, v', u')], hs =>
      obtain ⟨ha, hb⟩ : a = 0 ∧ b = 1 := by simpa using hs
      subst ha hb
      have h4 := h3.pick [BoxP s 93 (((stV p { σ with d := d' }).cells.setIfInBounds 7 (poV (p.v0, p.v1) [(0, v, u), (1, v', u')]).1).setIfInBounds 8 (poV (p.v0, p.v1) [(0, v, u), (1, v', u')]).2), RunF p.v0 (ofL σ.u0), RunF p.v1 (ofL σ.u1), ArcO p.av σ.a, MapF p.m σ.L, SecO p.cv p.db σ.c, DevF p.db d', LocP a' acc, BoxP pb 37 cs, LcF lv acc, BoxP fb 87 #[(poV (p.v0, p.v1) [(0, v, u), (1, v', u')]).1, (poV (p.v0, p.v1) [(0, v, u), (1, v', u')]).2]] (Q := RunF v (ofL u)) (l2 := RunF v' (ofL u') :: l)
      have h4' := h4.pick [RunF v (ofL u), BoxP s 93 (((stV p { σ with d := d' }).cells.setIfInBounds 7 (poV (p.v0, p.v1) [(0, v, u), (1, v', u')]).1).setIfInBounds 8 (poV (p.v0, p.v1) [(0, v, u), (1, v', u')]).2), RunF p.v0 (ofL σ.u0), RunF p.v1 (ofL σ.u1), ArcO p.av σ.a, MapF p.m σ.L, SecO p.cv p.db σ.c, DevF p.db d', LocP a' acc, BoxP pb 37 cs, LcF lv acc, BoxP fb 87 #[(poV (p.v0, p.v1) [(0, v, u), (1, v', u')]).1, (poV (p.v0, p.v1) [(0, v, u), (1, v', u')]).2]] (Q := RunF v' (ofL u')) (l2 := l)
      have h5 : Own B (RunF v' (ofL u') :: RunF v (ofL u) :: BoxP s 93 (((stV p { σ with d := d' }).cells.setIfInBounds 7 (poV (p.v0, p.v1) [(0, v, u), (1, v', u')]).1).setIfInBounds 8 (poV (p.v0, p.v1) [(0, v, u), (1, v', u')]).2) :: ArcO p.av σ.a :: MapF p.m σ.L :: SecO p.cv p.db σ.c :: DevF p.db d' :: LocP a' acc :: l) _ := h4'.subl (by repeat (first | exact List.Sublist.refl _ | apply List.Sublist.cons_cons | apply List.Sublist.cons))
      have h6 := h5.pick [RunF v' (ofL u'), RunF v (ofL u)]
      exact h6.perm ((List.Perm.swap _ _ _).cons _)
    | [], hs => simp at hs
    | [_], hs => simp at hs
    | _ :: _ :: _ :: _, hs => simp at hs
  · match rs, hs with
    | [(a, v, u), (b, v', u')], hs =>
      obtain ⟨ha, hb⟩ : a = 1 ∧ b = 0 := by simpa using hs
      subst ha hb
      have h4 := h3.pick [BoxP s 93 (((stV p { σ with d := d' }).cells.setIfInBounds 7 (poV (p.v0, p.v1) [(1, v, u), (0, v', u')]).1).setIfInBounds 8 (poV (p.v0, p.v1) [(1, v, u), (0, v', u')]).2), RunF p.v0 (ofL σ.u0), RunF p.v1 (ofL σ.u1), ArcO p.av σ.a, MapF p.m σ.L, SecO p.cv p.db σ.c, DevF p.db d', LocP a' acc, BoxP pb 37 cs, LcF lv acc, BoxP fb 87 #[(poV (p.v0, p.v1) [(1, v, u), (0, v', u')]).1, (poV (p.v0, p.v1) [(1, v, u), (0, v', u')]).2]] (Q := RunF v (ofL u)) (l2 := RunF v' (ofL u') :: l)
      have h4' := h4.pick [RunF v (ofL u), BoxP s 93 (((stV p { σ with d := d' }).cells.setIfInBounds 7 (poV (p.v0, p.v1) [(1, v, u), (0, v', u')]).1).setIfInBounds 8 (poV (p.v0, p.v1) [(1, v, u), (0, v', u')]).2), RunF p.v0 (ofL σ.u0), RunF p.v1 (ofL σ.u1), ArcO p.av σ.a, MapF p.m σ.L, SecO p.cv p.db σ.c, DevF p.db d', LocP a' acc, BoxP pb 37 cs, LcF lv acc, BoxP fb 87 #[(poV (p.v0, p.v1) [(1, v, u), (0, v', u')]).1, (poV (p.v0, p.v1) [(1, v, u), (0, v', u')]).2]] (Q := RunF v' (ofL u')) (l2 := l)
      have h5 : Own B (RunF v' (ofL u') :: RunF v (ofL u) :: BoxP s 93 (((stV p { σ with d := d' }).cells.setIfInBounds 7 (poV (p.v0, p.v1) [(1, v, u), (0, v', u')]).1).setIfInBounds 8 (poV (p.v0, p.v1) [(1, v, u), (0, v', u')]).2) :: ArcO p.av σ.a :: MapF p.m σ.L :: SecO p.cv p.db σ.c :: DevF p.db d' :: LocP a' acc :: l) _ := h4'.subl (by repeat (first | exact List.Sublist.refl _ | apply List.Sublist.cons_cons | apply List.Sublist.cons))
      have h6 := h5.pick [RunF v' (ofL u'), RunF v (ofL u)]
      exact h6
    | [], hs => simp at hs
    | [_], hs => simp at hs
    | _ :: _ :: _ :: _, hs => simp at hs
/-- PutOn refuses. -/
theorem sputon_nil (t : ByteArray) (v : Value) (w : World) : Calls Tryz.prog 28 #[.pointer none, .string t, v] w fun e w' => e = .returned (.tuple #[.string ⟨#[]⟩, .int .i64 1]) ∧ w = w' := by
  go_enter Tryz.func28, Tryz.ntmps28
  go_wp2_with fail
  refine (smade_nil _).mono ?_
  rintro e w1 ⟨rfl, rfl⟩
  go_wp2
  go_ret2
  exact ⟨rfl, rfl⟩
end
end Go.Proofs.YtphhnhldbajaoaaGreatDoor
