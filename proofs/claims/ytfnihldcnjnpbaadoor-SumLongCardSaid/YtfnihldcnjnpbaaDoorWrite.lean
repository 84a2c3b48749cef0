/-
  The contract of Write.
-/
import Derived.Test.YtfnihldcnjnpbaaDoorWriter
namespace Go.Proofs.YtfnihldcnjnpbaaDoor
open Go.RowKit

theorem wput8 {w : World} {b : Nat} {s : St} {r : ByteArray} {n : Nat} (h : WtAt w b s r n) (v : St) : WtAt ((((((((w.setCell ⟨b, 0, none⟩ (.int .u32 (v.a : Nat))).setCell ⟨b, 1, none⟩ (.int .u32 (v.b : Nat))).setCell ⟨b, 2, none⟩ (.int .u32 (v.c : Nat))).setCell ⟨b, 3, none⟩ (.int .u32 (v.d : Nat))).setCell ⟨b, 4, none⟩ (.int .u32 (v.e : Nat))).setCell ⟨b, 5, none⟩ (.int .u32 (v.f : Nat))).setCell ⟨b, 6, none⟩ (.int .u32 (v.g : Nat))).setCell ⟨b, 7, none⟩ (.int .u32 (v.h : Nat))) b v r n := by
  have h0 := setAt (i := 0) (u := uV v.a) (cs' := #[uV v.a, uV s.b, uV s.c, uV s.d, uV s.e, uV s.f, uV s.g, uV s.h, .string r, .int .i64 (n : Int)]) (show w.heap[b]? = some (.cells #[uV s.a, uV s.b, uV s.c, uV s.d, uV s.e, uV s.f, uV s.g, uV s.h, .string r, .int .i64 (n : Int)] 74 (0, 0)) from h) rfl
  have h1 := setAt (i := 1) (u := uV v.b) (cs' := #[uV v.a, uV v.b, uV s.c, uV s.d, uV s.e, uV s.f, uV s.g, uV s.h, .string r, .int .i64 (n : Int)]) h0 rfl
  have h2 := setAt (i := 2) (u := uV v.c) (cs' := #[uV v.a, uV v.b, uV v.c, uV s.d, uV s.e, uV s.f, uV s.g, uV s.h, .string r, .int .i64 (n : Int)]) h1 rfl
  have h3 := setAt (i := 3) (u := uV v.d) (cs' := #[uV v.a, uV v.b, uV v.c, uV v.d, uV s.e, uV s.f, uV s.g, uV s.h, .string r, .int .i64 (n : Int)]) h2 rfl
  have h4 := setAt (i := 4) (u := uV v.e) (cs' := #[uV v.a, uV v.b, uV v.c, uV v.d, uV v.e, uV s.f, uV s.g, uV s.h, .string r, .int .i64 (n : Int)]) h3 rfl
  have h5 := setAt (i := 5) (u := uV v.f) (cs' := #[uV v.a, uV v.b, uV v.c, uV v.d, uV v.e, uV v.f, uV s.g, uV s.h, .string r, .int .i64 (n : Int)]) h4 rfl
  have h6 := setAt (i := 6) (u := uV v.g) (cs' := #[uV v.a, uV v.b, uV v.c, uV v.d, uV v.e, uV v.f, uV v.g, uV s.h, .string r, .int .i64 (n : Int)]) h5 rfl
  have h7 := setAt (i := 7) (u := uV v.h) (cs' := #[uV v.a, uV v.b, uV v.c, uV v.d, uV v.e, uV v.f, uV v.g, uV v.h, .string r, .int .i64 (n : Int)]) h6 rfl
  exact h7
theorem WtAt.set8 {w : World} {b : Nat} {s : St} {r : ByteArray} {n : Nat} (h : WtAt w b s r n) (r' : ByteArray) : WtAt (w.setCell ⟨b, 8, none⟩ (.string r')) b s r' n :=
  setAt (cs := #[uV s.a, uV s.b, uV s.c, uV s.d, uV s.e, uV s.f, uV s.g, uV s.h, .string r, .int .i64 (n : Int)]) (cs' := #[uV s.a, uV s.b, uV s.c, uV s.d, uV s.e, uV s.f, uV s.g, uV s.h, .string r', .int .i64 (n : Int)]) h rfl
theorem WtAt.set9 {w : World} {b : Nat} {s : St} {r : ByteArray} {n : Nat} (h : WtAt w b s r n) (n' : Nat) : WtAt (w.setCell ⟨b, 9, none⟩ (.int .i64 (n' : Int))) b s r n' :=
  setAt (cs := #[uV s.a, uV s.b, uV s.c, uV s.d, uV s.e, uV s.f, uV s.g, uV s.h, .string r, .int .i64 (n : Int)]) (cs' := #[uV s.a, uV s.b, uV s.c, uV s.d, uV s.e, uV s.f, uV s.g, uV s.h, .string r, .int .i64 (n' : Int)]) h rfl

theorem now_lit (b : Nat) (st : St) (r : ByteArray) (n : Nat) (w : World) (h : WtAt w b st r n) :
    Calls Tryd.prog 48 #[.pointer (some ⟨b, 0, none⟩)] w fun e w' => ∃ x : St, x = nowS st n ∧ e = .returned (.agg #[.int .u32 (x.a : Nat), .int .u32 (x.b : Nat), .int .u32 (x.c : Nat), .int .u32 (x.d : Nat), .int .u32 (x.e : Nat), .int .u32 (x.f : Nat), .int .u32 (x.g : Nat), .int .u32 (x.h : Nat)]) ∧ Below w.heap.size w w' :=
  (now_any b st r n w h).mono fun _ _ hq => ⟨_, rfl, hq.1, hq.2⟩

set_option maxHeartbeats 4000000 in
theorem write_any (b : Nat) (st : St) (r s : ByteArray) (n : Nat) (w : World) (h : WtAt w b st r n) (hst : st.ok) (hn : n ≤ 70368744177664) (hr : r.size ≤ 70368744177664) (hs : s.size ≤ 70368744177664) (hK : Kt w) :
    Calls Tryd.prog 20 #[.pointer (some ⟨b, 0, none⟩), .string s] w fun e w' =>
      e = .returned (.tuple #[]) ∧ WtAt w' b (fin1 (nowS st n) (r ++ s)) (wrR (r ++ s)) (n + s.size) ∧ Below b w w' := by
  have H := Lib.hid h
  have HK := Lib.hid hK
  have HP := Lib.hid hK.pos
  have HO := Lib.hid (nowS_ok (n := n) hst)
  have hlt := Lib.hid h.lt
  have hb0 : Hid (0 < b) := by
    show 0 < b
    rcases Nat.eq_zero_or_pos b with rfl | hp
    · have e1 := h.tail.1
      rw [hK 8 (by decide)] at e1
      simp at e1
    · exact hp
  obtain ⟨h8, h9⟩ := h.tail
  have hall : (r ++ s).size = r.size + s.size := ByteArray.size_append
  have hfl : fullN (r ++ s) ≤ (r ++ s).size := Nat.sub_le _ _
  have HF : Hid (fin1 (nowS st n) (r ++ s) = absK (nowS st n) ((r ++ s).extract 0 (fullN (r ++ s))) (((r ++ s).extract 0 (fullN (r ++ s))).size / 64)) := rfl
  have HR : Hid ((r ++ s).extract (fullN (r ++ s)) (r ++ s).size = wrR (r ++ s)) := rfl
  have hfull : (((r ++ s).size : Int) - ((r ++ s).size : Int) % 64) = (fullN (r ++ s) : Nat) := by unfold fullN; omega
  have Hfull := Lib.hid hfull
  generalize fin1 (nowS st n) (r ++ s) = fs at *
  clear h hK hst hfull
  go_enter Tryd.func20, Tryd.ntmps20
  go_upto_region 3 with (fail)
  rw [show ((r.size : Int) + (s.size : Int) - ((r.size : Int) + (s.size : Int)) % 64) = (fullN (r ++ s) : Nat) from by rw [← Hfull.out]; omega]
  have hts : (r ++ s).size ≤ 140737488355328 := by omega
  clear Hfull hall
  generalize ht : r ++ s = t at *
  have HT := Lib.hid ht
  clear ht
  generalize hf : fullN t = f at *
  have Hf := Lib.hid hf
  clear hf
  go_cut [20] (fun s20 wx => Hid (WtAt wx b fs r n) ∧ Hid (Below b w wx) ∧ Hid (Kt wx))
  case first =>
    go_region_with (first
      | (go_at_call 48; refine (now_lit b st r n _ (by exact H.out)).mono ?_; rintro e w1 ⟨x, hx, rfl, hb⟩; have hb1 : Below w.heap.size w w1 := ⟨hb.os, hb.tape, hb.output, hb.size, hb.block⟩; have HB1 := Lib.hid hb1; have HK1 := Lib.hid (HK.out.below hb1 HP.out); have H1 := Lib.hid (WtAt.below H.out hb1 hlt.out); have HX := Lib.hid hx; have HXo : Hid x.ok := (by rw [hx]; exact HO.out); clear hb hb1 hx)
      | (go_at_call 47; refine (absorb_lit x _ _ HXo.out (by exact HK1.out)).mono ?_; rintro e w2 ⟨y, hy, rfl, hb⟩; have H2 := Lib.hid (WtAt.below H1.out hb (Nat.lt_of_lt_of_le hlt.out HB1.out.size)); have HB2 := Lib.hid ((HB1.out.mono (Nat.le_of_lt hlt.out)).trans (hb.mono (Nat.le_of_lt (Nat.lt_of_lt_of_le hlt.out HB1.out.size)))); have HK2 := Lib.hid (HK1.out.below hb (Nat.lt_of_lt_of_le HP.out HB1.out.size)); have HY := Lib.hid hy; clear hb hy; obtain ⟨e0, e1, e2, e3, e4, e5, e6, e7⟩ := H2.out.head; have f0 := H2.out.free 0; have f1 := H2.out.free 1; have f2 := H2.out.free 2; have f3 := H2.out.free 3; have f4 := H2.out.free 4; have f5 := H2.out.free 5; have f6 := H2.out.free 6; have f7 := H2.out.free 7))
    all_goals
      go_wp2_with fail
      go_meet
      have hfin : fs = y := by rw [HF.out, HY.out, HX.out]
      have hbw : Below b w _ := HB2.out.trans (put8_other w2 b y b (Nat.le_refl _))
      exact ⟨by rw [hfin]; exact wput8 H2.out y, hbw, HK.out.below hbw hb0.out⟩
  case rest =>
    clear H HK hlt HP h8 h9
    obtain ⟨wx, rfl⟩ : ∃ wx : World, wx = wc := ⟨_, rfl⟩
    obtain ⟨H, HB, HK⟩ := hcut
    have hlt := Lib.hid H.out.lt
    have hxs : (wrR t).size ≤ 140737488355328 := by
      unfold wrR
      rw [ByteArray.size_extract]
      omega
    go_wp2_with fail
    rw [HR.out]
    refine (clone_any (wrR t) _ hxs).mono ?_
    rintro e w1 ⟨rfl, hb⟩
    have H1 := Lib.hid (WtAt.below H.out hb hlt.out)
    have HB1 := Lib.hid (HB.out.trans (hb.mono (Nat.le_of_lt hlt.out)))
    clear hb hxs
    obtain ⟨h8, h9⟩ := H1.out.tail
    have f8 := H1.out.free 8
    have f9 := H1.out.free 9
    generalize hq : wrR t = q at *
    have HQ := Lib.hid hq
    clear hq
    go_wp2
    go_end0
    refine ⟨rfl, ?_, HB1.out.trans (((Below.refl b w1).setCell (p := ⟨b, 8, none⟩) (Nat.le_refl _) _).setCell (p := ⟨b, 9, none⟩) (Nat.le_refl _) _)⟩
    rw [HT.out, HQ.out, ← Int.natCast_add]
    exact (H1.out.set8 q).set9 (n + s.size)
end Go.Proofs.YtfnihldcnjnpbaaDoor
