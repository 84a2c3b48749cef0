/-
  Texts put together: BlkVf, OpenVf, BlkVerifiedWalk.
-/
import Derived.Test.YtonkmffipjdhkaaDoorBlkCp
import Derived.Test.YtonkmffipjdhkaaDoorMg41
import Derived.Test.YtonkmffipjdhkaaDoorMg18
import Derived.Test.YtonkmffipjdhkaaDoorMg28
import Derived.Test.YtonkmffipjdhkaaDoorBlkLive
import Derived.Test.YtonkmffipjdhkaaDoorMg0
namespace Go.Proofs.YtonkmffipjdhkaaDoor
open Go Go.RowKit Go.ChangeShapes Go.WideShapes Go.ChangeAt

/-- What is told is as the pointer says, or nothing is. -/
theorem read_cases (t : Told) (p : PtrD) : (readR t p).2.2 ≠ 0 ∧ (readR t p).1 = ⟨#[]⟩ ∧ (readR t p).2.1 = 0 ∨ (readR t p).2.2 = 0 ∧ isT p (readR t p).1 = true ∧ (readR t p).2.1 < p.locs.length ∧ ∃ k, (readR t p).1 = t.T k := by
  by_cases h : badP p
  · rw [readR_bad h]
    exact .inl ⟨by decide, rfl, rfl⟩
  · cases hg : firstG t p with
    | none =>
      rw [readR_no h hg]
      exact .inl ⟨by decide, rfl, rfl⟩
    | some k =>
      rw [readR_at h hg]
      unfold firstG at hg
      rw [List.find?_range_eq_some] at hg
      obtain ⟨h1, h2, _⟩ := hg
      unfold Told.good at h1
      rw [Bool.and_eq_true] at h1
      exact .inr ⟨rfl, h1.2, by simpa using h2, k, rfl⟩

set_option maxRecDepth 100000 in
set_option maxHeartbeats 1000000 in
theorem verified_any {B : Nat} {P : List Nat → World → Prop} (hP : Fixed P) {b : Nat} {d : DevD} {w : World} (h : One B P b d w) (hK : Kt w) (a : Option Addr) (cap : Nat) (p : PtrD) (hs : SlP w a p.locs) (hl : p.locs.length ≤ 1000) (hT : ∀ l, (tellD d l).size ≤ 2000) :
    Calls Tryd.prog 12 #[.pointer (some ⟨b, 0, none⟩), ptrV a cap p] w fun e w' => e = .returned (.bool true) ∧ Below w.heap.size w w' := by
  have hx := (Below.refl w.heap.size w).alloc (Nat.le_refl _) (.cells #[.slice a p.locs.length cap, .int .i64 p.len, .int .i64 p.birth, .string p.sum] 25)
  have HX := Lib.hid hx
  have BX := Lib.hid (Box.new w 25 #[.slice a p.locs.length cap, .int .i64 p.len, .int .i64 p.birth, .string p.sum])
  have HRD := Lib.hid (bread_any (some ⟨b, 0, none⟩) a cap p (toldD d p) _ hl (hs.keep hx) (hK.below hx hK.pos) (fun k => Nat.le_trans (hT _) (by decide)) ((one_rd hP h p).keep hx))
  have HC := Lib.hid (read_cases (toldD d p) p)
  have HSM : Hid (∀ k, ((toldD d p).T k).size ≤ 2000) := fun k => hT _
  have HLL := Lib.hid hl
  unfold ptrV at HRD ⊢
  clear h hK hs hl hT hx hP
  generalize readR (toldD d p) p = rr at *
  obtain ⟨tx, nx, ex⟩ := rr
  simp only at HRD HC
  have k0 := BX.out.cell 0 _ rfl
  have k1 := BX.out.cell 1 _ rfl
  have k2 := BX.out.cell 2 _ rfl
  have k3 := BX.out.cell 3 _ rfl
  go_enter Tryd.func12, Tryd.ntmps12
  go_wp2_with fail
  generalize World.alloc w _ = wx at *
  refine HRD.out.mono ?_
  rintro e w2 ⟨rfl, hb⟩
  have H2 := Lib.hid (HX.out.trans (hb.mono HX.out.size))
  have B2 := Lib.hid (BX.out.keep hb BX.out.lt)
  clear hb k0 k1 k2 k3 HX BX HRD
  rcases HC.out with ⟨he, rfl, rfl⟩ | ⟨rfl, hg, hn, k, rfl⟩
  · have hq : (ex != 0) = true := by simpa using he
    clear he
    go_wp2
    go_ret
    exact ⟨rfl, H2.out⟩
  · have k0 : w2.cell? ⟨w.heap.size, 0, none⟩ = some (.slice a p.locs.length cap) := B2.out.cell 0 _ rfl
    have k1 : w2.cell? ⟨w.heap.size, 1, none⟩ = some (.int .i64 p.len) := B2.out.cell 1 _ rfl
    have k3 : w2.cell? ⟨w.heap.size, 3, none⟩ = some (.string p.sum) := B2.out.cell 3 _ rfl
    have hsm := HSM.out k
    generalize (toldD d p).T k = tk at *
    unfold isT at hg
    rw [Bool.and_eq_true] at hg
    obtain ⟨hg1, hg2⟩ := hg
    have HNL := Lib.hid hn
    have HSMK := Lib.hid hsm
    clear hn hsm HC HSM
    go_wp2_with fail
    refine wp_region_sched (fun W => W.cell? ⟨w.heap.size, 0, none⟩ = some (.slice a p.locs.length cap) ∧ W.cell? ⟨w.heap.size, 1, none⟩ = some (.int .i64 p.len) ∧ W.cell? ⟨w.heap.size, 3, none⟩ = some (.string p.sum)) 17 [(0, false), (1, false), (2, false), (3, false), (4, false), (5, false), (6, false), (8, false), (9, false), (7, true), (10, false), (11, false), (12, false), (13, false), (14, false), (15, false), (16, false)] (by kernel_rfl) (by kernel_rfl) ⟨k0, k1, k3⟩ ?_
    simp only [List.drop_succ_cons, List.drop_zero]
    iterate 9 (apply wpSch_step rfl; (intro W hS K hK; obtain ⟨q1, q2, q3⟩ := hS; go_simp; exact hK _ rfl))
    refine wpSch_make rfl (fun K' hK => ?_)
    go_simp
    refine (rof_any tk _ (by have := HSMK.out; omega)).mono ?_
    rintro e w3 ⟨rfl, hb⟩
    have H3 := Lib.hid (H2.out.drew.trans (hb.mono H2.out.size))
    refine hK _ _ _ (fun _ h => h) ⟨(hb.cell (p := ⟨w.heap.size, 0, none⟩) B2.out.lt).trans k0, (hb.cell (p := ⟨w.heap.size, 1, none⟩) B2.out.lt).trans k1, (hb.cell (p := ⟨w.heap.size, 3, none⟩) B2.out.lt).trans k3⟩ ?_
    clear hK K' hb k0 k1 k3
    iterate 7 (apply wpSch_step rfl; (intro W hS K hK; obtain ⟨q1, q2, q3⟩ := hS; go_simp; exact hK _ rfl))
    refine wpSch_nil ?_
    go_wp2
    go_ret
    exact ⟨ret_bool (decide_eq_true HNL.out), H3.out⟩

/-- Devices of 20 sectors each, none lost, whose texts are small. -/
def SmD (d : DevD) : Prop := ∃ T H, Rg 20 d T H (fun _ => false) ∧ (∀ a b, (T a b).size ≤ 2000) ∧ d.waits.length ≤ 2
theorem SmD.spoil {d : DevD} (h : SmD d) (l : Int × Int) (s : ByteArray) : SmD (spoilD d l s) := by
  obtain ⟨T, H, hr, hT, hw⟩ := h
  by_cases hc : chkD d l s.size = 0
  · obtain ⟨h1, h2, h3, h4, _⟩ := chkD_ok hc
    rw [hr.sz _ h1] at h3
    obtain ⟨r1, r2⟩ := hr.spoil (l, s) h1 h2 h3 h4
    exact ⟨_, _, r1, lt_small (l, s) _ hT (by show s.size ≤ 2000; omega), Nat.le_trans r2 hw⟩
  · have e : spoilD d l s = d := by unfold spoilD; rw [if_neg hc]
    rw [e]
    exact ⟨T, H, hr, hT, hw⟩
theorem SmD.tell {d : DevD} (h : SmD d) (l : Int × Int) : (tellD d l).size ≤ 2000 := by
  obtain ⟨T, H, hr, hT, _⟩ := h
  exact hr.small (fun _ _ _ _ _ => hT _ _) l
def VL : List (Int × Int) := [(0, 5), (1, 5)]
theorem vl_two : ∀ x ∈ VL, two x.1 ∧ 0 ≤ x.2 ∧ x.2 < 20 := by decide
theorem vp_ok {s : ByteArray} (hs : s.size ≤ 960) : ¬ badP (wrP VL s 1) := wrP_ok (by decide) (by decide) (by decide) hs (by decide)
theorem v_sm {s : ByteArray} (hs : s.size ≤ 960) : SmD (wrB (newD 20 20) VL s) := by
  obtain ⟨h1, h2, _⟩ := (Rg.new 20).write ((0, 5), s) (.inl rfl) (by show (0 : Int) ≤ 5; omega) (by show (5 : Int) < 20; omega) (by show s.size ≤ 1024; omega)
  obtain ⟨h3, h4, _⟩ := h1.write ((1, 5), s) (.inr rfl) (by show (0 : Int) ≤ 5; omega) (by show (5 : Int) < 20; omega) (by show s.size ≤ 1024; omega)
  refine ⟨_, _, h3, lt_small _ _ (lt_small _ _ (fun _ _ => Nat.zero_le _) (by show s.size ≤ 2000; omega)) (by show s.size ≤ 2000; omega), ?_⟩
  show (writeD (writeD (newD 20 20) (0, 5) s) (1, 5) s).waits.length ≤ 2
  have e : (writeD (writeD (newD 20 20) (0, 5) s) (1, 5) s).waits = ([] ++ [((0, 5), s)]) ++ [((1, 5), s)] := h4.trans (by rw [h2]; rfl)
  rw [e]
  simp
end Go.Proofs.YtonkmffipjdhkaaDoor

namespace Go.Proofs.YtonkmffipjdhkaaDoor
open Go.ChangeShapes Go.WideShapes Go.ChangeAt Go.RowKit

theorem cellsVf : Tryd.prog.cellsOf 35 = 8 := by kernel_rfl
/-- What is read of a call. -/
structure VfD where
  la : Option Addr
  lc : Nat
  locs : List (Int × Int)
  s : ByteArray
instance : Inhabited VfD := ⟨⟨none, 0, [], ⟨#[]⟩⟩⟩
def VfE (w : World) (cs : List Value) (x : VfD) : Prop := (∃ v0 v3 v4 v5 v6 v7, cs = [v0, .slice x.la x.locs.length x.lc, .string x.s, v3, v4, v5, v6, v7]) ∧ SlP w x.la x.locs ∧ x.locs.length ≤ maxLen ∧ x.s.size ≤ maxLen

section
variable {H : Type} {enc : TypeId × Value → H} {w : World}
set_option maxRecDepth 100000 in
theorem open_vf {held : Bool} {fuel : Nat} {cs : List Value} {x : DataW H × List MemPlace} (h : DataW.trod enc Tryd.prog w 0 (fun _ => true) held fuel 35 cs = some x) : ∃ y, VfE w cs y := by
  obtain ⟨xs, n, _, _, hl, hlen, hfield⟩ := DataW.trod_struct Tryd.underlying35 h
  rw [cellsVf] at hl
  have g1 : DataW.trod enc Tryd.prog w 0 _ _ n 23 ((cs.drop 1).take (Tryd.prog.cellsOf 23)) = xs[1]? := hfield 1 _ rfl
  have g2 : DataW.trod enc Tryd.prog w 0 _ _ n 9 ((cs.drop 2).take (Tryd.prog.cellsOf 9)) = xs[2]? := hfield 2 _ rfl
  rw [cellsLocs] at g1
  rw [cellsStr] at g2
  have hlen5 : xs.length = 5 := hlen
  match cs, hl, xs, hlen5 with
  | [v0, v1, v2, v3, v4, v5, v6, v7], _, [x0, x1, x2, x3, x4], _ =>
    obtain ⟨a, cap, l, e1, hs, hm⟩ := open_locs g1
    obtain ⟨t, e2, _, ht⟩ := DataW.trod_string Tryd.underlying9 g2
    simp at e1 e2
    exact ⟨⟨a, cap, l, t⟩, ⟨v0, v3, v4, v5, v6, v7, by rw [e1, e2]⟩, hs, hm, ht⟩

set_option maxRecDepth 100000 in
theorem open_vfs {base : Nat} {v : Value} {d : DataW H} {ps : List MemPlace} (hw : Value.okWide Tryd.prog w .any base 22 v) (h : DataW.Trod enc Tryd.prog w 0 (fun _ => true) true 22 v d ps) :
    ∃ a cap, ∃ l : List VfD, v = .slice a l.length cap ∧ SlE w 8 (VfE w) a l ∧ l.length ≤ maxLen := by
  obtain ⟨a0, len, cap, rfl⟩ := okWide_slice Tryd.underlying22 hw
  obtain ⟨fuel, hf⟩ := h
  obtain ⟨a, cap', l, e, hs, hm⟩ := open_slE (n := 8) (VfE w) Tryd.underlying22 cellsVf (by decide) (fun _ _ _ h => open_vf h) hf
  simp [Value.cells] at e
  obtain ⟨rfl, rfl, rfl⟩ := e
  exact ⟨_, _, l, rfl, hs, hm⟩
end
/-- The cells of the i-th call. -/
theorem vf_at {w : World} {a : Option Addr} {l : List VfD} (h : SlE w 8 (VfE w) a l) (i : Nat) (hi : i < l.length) : ∃ b off, a = some ⟨b, off, none⟩ ∧ b < w.heap.size ∧
    w.cell? ⟨b, off + i * 8 + 1, none⟩ = some (.slice l[i].la l[i].locs.length l[i].lc) ∧ w.cell? ⟨b, off + i * 8 + 2, none⟩ = some (.string l[i].s) ∧ SlP w l[i].la l[i].locs := by
  obtain ⟨b, off, e, hl, hc⟩ := h (by intro h; rw [h] at hi; simp at hi)
  obtain ⟨cs, _, ⟨⟨v0, v3, v4, v5, v6, v7, rfl⟩, hs, _, _⟩, hcell⟩ := hc i l[i] (List.getElem?_eq_getElem hi)
  exact ⟨b, off, e, hl, hcell 1 _ rfl, hcell 2 _ rfl, hs⟩
end Go.Proofs.YtonkmffipjdhkaaDoor

namespace Go.Proofs.YtonkmffipjdhkaaDoor.blkVerified
open Go.RowKit

theorem one_boxP {B b g : Nat} {d : DevD} {w : World} {t : TypeId} {cs : Array Value} (h : One B (BoxP g t cs) b d w) : Box w g t cs := by
  obtain ⟨_, _, _, _, ⟨_, hb⟩, _⟩ := h
  exact hb

set_option maxRecDepth 100000 in
set_option maxHeartbeats 4000000 in
theorem walk (w : World) (hK : Kt w) (a0 : ByteArray) (w0 : a0.size ≤ 140737488351232) (x1 : Option Addr) (c1 : Nat) (l1 : List VfD) (s1 : SlE w 8 (VfE w) x1 l1) (m1 : l1.length ≤ maxLen) (x2 : Option Addr) (c2 : Nat) (y2 : PtrD) (s2 : SlP w x2 y2.locs) (m2 : y2.locs.length ≤ maxLen) (z2 : y2.sum.size ≤ maxLen) :
    Calls Tryd.prog 3 #[.string a0, .slice x1 l1.length c1, ptrV x2 c2 y2] w fun e w' => e = .returned (.bool true) ∧ Below w.heap.size w w' := by
  have HK := Lib.hid hK
  have HB := Lib.hid hK.pos
  obtain ⟨ll, ln, bi, su⟩ := y2
  simp only at s2 m2 z2
  have hx := (Below.refl w.heap.size w).alloc (Nat.le_refl _) (.cells #[.slice x2 ll.length c2, .int .i64 ln, .int .i64 bi, .string su] 25)
  have BX := Lib.hid (Box.new w 25 #[.slice x2 ll.length c2, .int .i64 ln, .int .i64 bi, .string su])
  have HX := Lib.hid hx
  have HS2 := Lib.hid s2
  have HS1 := Lib.hid s1
  unfold ptrV
  simp only
  have k0 := BX.out.cell 0 _ rfl
  have k1 := BX.out.cell 1 _ rfl
  have k2 := BX.out.cell 2 _ rfl
  have k3 := BX.out.cell 3 _ rfl
  clear hK hx s1 s2
  by_cases hg0 : 960 < a0.size
  · have d0 : decide ((960 : Int) < (a0.size : Int)) = true := decide_eq_true (by omega)
    go_enter Tryd.func3, Tryd.ntmps3
    go_wp2_with fail
    generalize World.alloc w _ = wx at *
    refine (live_any _ (HK.out.below HX.out HB.out)).mono ?_
    rintro e wl ⟨rfl, hb⟩
    have HL := Lib.hid (HX.out.trans (hb.mono HX.out.size))
    clear hb k0 k1 k2 k3
    go_wp2
    go_ret
    exact ⟨rfl, HL.out⟩
  have d0 : decide ((960 : Int) < (a0.size : Int)) = false := decide_eq_false (by omega)
  by_cases hg1 : 10 < l1.length
  · have d1 : decide ((10 : Int) < (l1.length : Int)) = true := decide_eq_true (by omega)
    go_enter Tryd.func3, Tryd.ntmps3
    go_wp2_with fail
    generalize World.alloc w _ = wx at *
    refine (live_any _ (HK.out.below HX.out HB.out)).mono ?_
    rintro e wl ⟨rfl, hb⟩
    have HL := Lib.hid (HX.out.trans (hb.mono HX.out.size))
    clear hb k0 k1 k2 k3
    go_wp2
    go_ret
    exact ⟨rfl, HL.out⟩
  have d1 : decide ((10 : Int) < (l1.length : Int)) = false := decide_eq_false (by omega)
  by_cases hg2 : 6 < ll.length
  · have d2 : decide ((6 : Int) < (ll.length : Int)) = true := decide_eq_true (by omega)
    go_enter Tryd.func3, Tryd.ntmps3
    go_wp2_with fail
    generalize World.alloc w _ = wx at *
    refine (live_any _ (HK.out.below HX.out HB.out)).mono ?_
    rintro e wl ⟨rfl, hb⟩
    have HL := Lib.hid (HX.out.trans (hb.mono HX.out.size))
    clear hb k0 k1 k2 k3
    go_wp2
    go_ret
    exact ⟨rfl, HL.out⟩
  have d2 : decide ((6 : Int) < (ll.length : Int)) = false := decide_eq_false (by omega)
  by_cases hg3 : 100 < su.size
  · have d3 : decide ((100 : Int) < (su.size : Int)) = true := decide_eq_true (by omega)
    go_enter Tryd.func3, Tryd.ntmps3
    go_wp2_with fail
    generalize World.alloc w _ = wx at *
    refine (live_any _ (HK.out.below HX.out HB.out)).mono ?_
    rintro e wl ⟨rfl, hb⟩
    have HL := Lib.hid (HX.out.trans (hb.mono HX.out.size))
    clear hb k0 k1 k2 k3
    go_wp2
    go_ret
    exact ⟨rfl, HL.out⟩
  have d3 : decide ((100 : Int) < (su.size : Int)) = false := decide_eq_false (by omega)
  have HS9 : Hid (a0.size ≤ 960) := by show _ ≤ _; omega
  have HLN : Hid (l1.length ≤ 10 ∧ ll.length ≤ 1000) := ⟨by omega, by omega⟩
  obtain ⟨s, hs⟩ : ∃ s, s = a0 := ⟨_, rfl⟩
  subst hs
  clear hg0 hg1 hg2 hg3 m1 m2 z2 w0
  go_enter Tryd.func3, Tryd.ntmps3
  go_wp2_with fail
  generalize World.alloc w _ = wx at *
  have F0 := Lib.hid (fixed_box w.heap.size 25 #[.slice x2 ll.length c2, .int .i64 ln, .int .i64 bi, .string su])
  refine (one_new w.heap.size F0.out 20 20 _ HX.out.size ⟨[w.heap.size], ⟨rfl, BX.out⟩, fun k hk => by rw [List.mem_singleton] at hk; omega⟩ (by omega) (by omega)).mono ?_
  rintro e v1 ⟨b, rfl, ho, hb⟩
  have hx := (Below.refl v1.heap.size v1).alloc (Nat.le_refl _) (.cells #[.int .i64 0, .int .i64 5, .int .i64 1, .int .i64 5] 33)
  have BY := Lib.hid (Box.new v1 33 #[.int .i64 0, .int .i64 5, .int .i64 1, .int .i64 5])
  have H1 : Hid (One w.heap.size (BoxP w.heap.size 25 #[.slice x2 ll.length c2, .int .i64 ln, .int .i64 bi, .string su]) b (newD 20 20) (v1.alloc (.cells #[.int .i64 0, .int .i64 5, .int .i64 1, .int .i64 5] 33))) := ho.keep F0.out hx
  have L1 := Lib.hid ((HX.out.trans hb).trans (hx.mono ho.1))
  have S1 : Hid (SlP (v1.alloc (.cells #[.int .i64 0, .int .i64 5, .int .i64 1, .int .i64 5] 33)) (some ⟨v1.heap.size, 0, none⟩) VL) := fun _ => ⟨v1.heap.size, 0, rfl, BY.out.lt, fun i x hi => by
    match i, hi with
    | 0, hi => simp [VL] at hi; subst hi; exact ⟨BY.out.cell 0 _ rfl, BY.out.cell 1 _ rfl⟩
    | 1, hi => simp [VL] at hi; subst hi; exact ⟨BY.out.cell 2 _ rfl, BY.out.cell 3 _ rfl⟩⟩
  clear ho hb hx BY k0 k1 k2 k3 HX BX
  go_wp2_with fail
  generalize World.alloc v1 _ = v2 at *
  generalize v1.heap.size = g1 at *
  refine (bwrite_ok F0.out H1.out HB.out (some ⟨g1, 0, none⟩) 2 VL s 1 (by decide) S1.out (by have := HS9.out; omega) (HK.out.below L1.out HB.out) (vp_ok HS9.out) (l_fresh VL vl_two (Rg.new 20)) (l_there VL (fun x hx => (vl_two x hx).1) (Rg.new 20)) (by decide)).mono ?_
  rintro e v3 ⟨a, c, rfl, ho, hb⟩
  have L3 := Lib.hid (L1.out.trans hb)
  obtain ⟨bb, off, rfl, _⟩ := ho.row.get 0 (by decide)
  have H3 := Lib.hid ho
  clear ho hb H1 L1 S1
  obtain ⟨sh, hsh⟩ : ∃ sh, sh = sha s := ⟨_, rfl⟩
  have hpv : ptrV (some ⟨bb, off, none⟩) c (wrP VL s 1) = .agg #[.slice (some ⟨bb, off, none⟩) 2 c, .int .i64 s.size, .int .i64 1, .string sh] := by rw [hsh]; rfl
  have HPV := Lib.hid hpv
  rw [hpv]
  clear hsh hpv
  have ho4 := (H3.out.addBox (fixed_both F0.out (fixed_loc (some ⟨bb, off, none⟩) VL)) 25 #[.slice (some ⟨bb, off, none⟩) 2 c, .int .i64 s.size, .int .i64 1, .string sh]).swapR
  have L4 := Lib.hid (L3.out.trans (((Below.refl v3.heap.size v3).alloc (Nat.le_refl _) (.cells #[.slice (some ⟨bb, off, none⟩) 2 c, .int .i64 s.size, .int .i64 1, .string sh] 25)).mono H3.out.1))
  have H4 := Lib.hid ho4
  clear ho4 H3 L3
  go_wp2_with fail
  generalize World.alloc v3 _ = v4 at *
  generalize v3.heap.size = g at *
  have P1 := Lib.hid (fixed_both F0.out (fixed_box g 25 #[.slice (some ⟨bb, off, none⟩) 2 c, .int .i64 s.size, .int .i64 1, .string sh]))
  have PF := Lib.hid (fixed_both P1.out (fixed_loc (some ⟨bb, off, none⟩) VL))
  go_loopw [10] (fun i wr => ∃ k : Nat, k ≤ l1.length ∧ i = .int .i64 k ∧ Hid (∃ d, SmD d ∧ One w.heap.size (Both (Both (BoxP w.heap.size 25 #[.slice x2 ll.length c2, .int .i64 ln, .int .i64 bi, .string su]) (BoxP g 25 #[.slice (some ⟨bb, off, none⟩) 2 c, .int .i64 s.size, .int .i64 1, .string sh])) (LocP (some ⟨bb, off, none⟩) VL)) b d wr) ∧ Hid (Below w.heap.size w wr)) (fun i _ => l1.length - (intOf i).toNat)
  case atStart => exact ⟨0, Nat.zero_le _, rfl, ⟨_, v_sm HS9.out, H4.out⟩, L4⟩
  case round =>
    clear H4 L4
    obtain ⟨k, hk, rfl, HD, HL⟩ := hrel
    obtain ⟨d, hd, ho⟩ := HD.out
    have HO := Lib.hid ho
    have HSM := Lib.hid hd
    clear HD ho hd
    by_cases hlt : k < l1.length
    · obtain ⟨b1, o1, rfl, hbl, y1, y2, hsl⟩ := vf_at HS1.out k hlt
      have x1 : wr.cell? ⟨b1, o1 + k * 8 + 1, none⟩ = some (.slice l1[k].la l1[k].locs.length l1[k].lc) := (HL.out.cell (p := ⟨b1, o1 + k * 8 + 1, none⟩) hbl).trans y1
      have x2' : wr.cell? ⟨b1, o1 + k * 8 + 2, none⟩ = some (.string l1[k].s) := (HL.out.cell (p := ⟨b1, o1 + k * 8 + 2, none⟩) hbl).trans y2
      have HSL := Lib.hid (hsl.keep HL.out)
      have HLT := Lib.hid hlt
      have hk0 : (0 : Int) ≤ (k : Int) := by omega
      have hk1 : (k : Int) < (l1.length : Int) := by omega
      have hk2 : (k : Int) ≤ 10 := by have := HLN.out; omega
      clear y1 y2 hsl hbl
      generalize l1[k] = z at *
      obtain ⟨za, zc, zl, zs⟩ := z
      simp only at x1 x2' HSL
      by_cases h1 : zl.length = 1
      · by_cases h2 : zs.size ≤ 1100
        · match zl, h1, HSL with
          | [(la, lb)], _, HSL =>
            obtain ⟨b2, o2, rfl, hb2, z0, z1⟩ := HSL.out.get 0 (by simp)
            simp only [List.getElem_cons_zero, Nat.zero_mul, Nat.add_zero] at z0 z1
            have d0 : decide ((zs.size : Int) ≤ 1100) = true := decide_eq_true (by omega)
            clear h2 HSL
            simp only [List.length_cons, List.length_nil, Nat.reduceAdd] at x1
            go_wp2_with fail
            refine wp_region_sched (fun W => W.cell? ⟨b1, o1 + k * 8 + 1, none⟩ = some (.slice (some ⟨b2, o2, none⟩) 1 zc) ∧ W.cell? ⟨b1, o1 + k * 8 + 2, none⟩ = some (.string zs) ∧ W.cell? ⟨b2, o2, none⟩ = some (.int .i64 la) ∧ W.cell? ⟨b2, o2 + 1, none⟩ = some (.int .i64 lb)) 13 [(0, false), (1, false), (2, false), (3, false), (4, false), (5, false), (6, false), (7, false), (8, false), (9, false), (10, false), (11, false), (12, false)] (by kernel_rfl) (by kernel_rfl) ⟨x1, x2', z0, z1⟩ ?_
            simp only [List.drop_succ_cons, List.drop_zero]
            iterate 13 (apply wpSch_step rfl; (intro W hS K hK; obtain ⟨q1, q2, q3, q4⟩ := hS; go_simp; exact hK _ rfl))
            refine wpSch_nil ?_
            have hso := one_spoil PF.out (HO.out.drew PF.out) (la, lb) zs (by obtain ⟨_, _, _, _, h⟩ := HSM.out; omega)
            unfold locV at hso
            have HLD := Lib.hid HL.out.drew
            clear x1 x2' z0 z1 HL
            go_wp2_with fail
            refine hso.mono ?_
            rintro e v6 ⟨rfl, ho, hb⟩
            have HD6 : Hid (∃ d, SmD d ∧ One w.heap.size (Both (Both (BoxP w.heap.size 25 #[.slice x2 ll.length c2, .int .i64 ln, .int .i64 bi, .string su]) (BoxP g 25 #[.slice (some ⟨bb, off, none⟩) 2 c, .int .i64 s.size, .int .i64 1, .string sh])) (LocP (some ⟨bb, off, none⟩) VL)) b d v6) := ⟨_, HSM.out.spoil (la, lb) zs, ho⟩
            have HL6 := Lib.hid (HLD.out.trans hb)
            clear ho hb hso HLD
            go_wp2
            go_roundw
            case rel => exact ⟨k + 1, HLT.out, by go_num, HD6, HL6⟩
            case measure => have := HLT.out; simp [intOf]; omega
        · have d0 : decide ((zs.size : Int) ≤ 1100) = false := decide_eq_false (by omega)
          have d1 : ((zl.length : Int) == 1) = true := by simp; omega
          clear h1 h2
          go_wp2
          go_roundw
          case rel => exact ⟨k + 1, HLT.out, by go_num, ⟨d, HSM.out, HO.out⟩, HL⟩
          case measure => have := HLT.out; simp [intOf]; omega
      · have d1 : ((zl.length : Int) == 1) = false := by simp; omega
        clear h1
        go_wp2
        go_roundw
        case rel => exact ⟨k + 1, HLT.out, by go_num, ⟨d, HSM.out, HO.out⟩, HL⟩
        case measure => have := HLT.out; simp [intOf]; omega
    · obtain rfl : k = l1.length := by omega
      have hbp := one_boxP HO.out.drop.drop
      have k0 := hbp.cell 0 _ rfl
      have k1 := hbp.cell 1 _ rfl
      have k2 := hbp.cell 2 _ rfl
      have k3 := hbp.cell 3 _ rfl
      have hv1 := verified_any PF.out HO.out (HK.out.below HL.out HB.out) x2 c2 ⟨ll, ln, bi, su⟩ (HS2.out.keep HL.out) HLN.out.2 HSM.out.tell
      unfold ptrV at hv1
      clear hbp
      go_wp2_with fail
      refine hv1.mono ?_
      rintro e v6 ⟨rfl, hb⟩
      have HO6 := Lib.hid (HO.out.keep PF.out hb)
      have HL6 := Lib.hid (HL.out.trans (hb.mono HO.out.1))
      clear hb hv1 k0 k1 k2 k3 HO HL
      have k0 := HO6.out.drop.box.cell 0 _ rfl
      have k1 := HO6.out.drop.box.cell 1 _ rfl
      have k2 := HO6.out.drop.box.cell 2 _ rfl
      have k3 := HO6.out.drop.box.cell 3 _ rfl
      have hv2 := verified_any PF.out HO6.out (HK.out.below HL6.out HB.out) (some ⟨bb, off, none⟩) c (wrP VL s 1) HO6.out.row (by show VL.length ≤ 1000; decide) HSM.out.tell
      rw [HPV.out] at hv2
      go_wp2_with fail
      refine hv2.mono ?_
      rintro e v7 ⟨rfl, hb⟩
      have HL7 := Lib.hid (HL6.out.trans (hb.mono HO6.out.1))
      clear hb hv2 k0 k1 k2 k3 HO6 HL6
      go_wp2_with fail
      refine (live_any _ (HK.out.below HL7.out HB.out)).mono ?_
      rintro e wl ⟨rfl, hb⟩
      have HLE := Lib.hid (HL7.out.trans (hb.mono HL7.out.size))
      clear hb
      go_wp2
      go_ret
      exact ⟨rfl, HLE.out⟩
end Go.Proofs.YtonkmffipjdhkaaDoor.blkVerified
