/-
  The reference's devices: Crash.
-/
import Derived.Test.YtflobdhhjfpcdaaRfD
namespace Go.Proofs.Ytflobdhhjfpcdaa
open Go.RowKit Go.ChangeShapes Go.WideShapes Go.ChangeAt

theorem lost_setHas0 (d : DevD) (l : Int × Int) (s : ByteArray) : (setHas d l s).s0.lost = d.s0.lost ∧ (setHas d l s).s1.lost = d.s1.lost ∧ (setHas d l s).waits = d.waits := by
  by_cases h : l.1 = 0 <;> simp [setHas, h]
/-- A sector's cell, and what a store into it comes to. -/
theorem side_put {w : World} {p : RefP} {d : DevD} {a : Int} {k : Nat} (h : RefAt w p d) (ha : a = 0 ∨ a = 1) (hk : (k : Int) < (devSize d a : Int)) :
    ∃ r c n, w.cell? ⟨p.sb, a.toNat, none⟩ = some (.slice (some ⟨r, 0, none⟩) n c) ∧ (n : Int) = devSize d a ∧ k < n ∧ w.cell? ⟨r, k, none⟩ = some (.string (hasAt d (a, k))) ∧ w.frozen? ⟨r, k, none⟩ = false ∧
      r ∈ p.fp ∧ ∀ s, RefAt (w.setCell ⟨r, k, none⟩ (.string s)) p (setHas d (a, k) s) := by
  obtain ⟨n1, n2, n3, n4, n5, n6, n7, n8, n9, n10, n11⟩ := h.ne
  rcases ha with rfl | rfl
  · have hk' : k < d.s0.has.length := by have : devSize d 0 = d.s0.has.length := rfl; omega
    refine ⟨p.r0, p.c0, d.s0.has.length, h.s.cell 0 _ rfl, rfl, hk', h.h0.get k _ (by show d.s0.has[k]? = some (d.s0.has.getD k _); rw [List.getD_eq_getElem?_getD, List.getElem?_eq_getElem hk']; rfl), h.h0.free k, by simp [RefP.fp], fun s => ?_⟩
    have hc := chg_set w p.r0 k (.string s)
    have e2 : setHas d (0, (k : Int)) s = { d with s0 := { d.s0 with has := d.s0.has.set k s } } := by unfold setHas; rw [if_pos rfl, Int.toNat_natCast]
    have hw : ∀ x ∈ d.waits, locOk (setHas d (0, (k : Int)) s) x.1 := fun x hx => by have := h.wok x hx; unfold locOk at *; rw [size_setHas]; exact this
    rw [e2] at hw ⊢
    refine ⟨h.box.of (hc.block p.b h.box.lt (by simpa using n3)), ?_, h.g.of (hc.block p.gb h.g.lt (by simpa using n8)), h.h0.set k s, h.h1.chg hc (by simpa using Ne.symm n10), h.wt.of fun b hb hlt => hc.block b hlt (by simpa using Ne.symm (n11 b hb).2.2.2.1), h.nd, by simpa using h.n0, h.n1, hw⟩
    have := h.s.of (hc.block p.sb h.s.lt (by simpa using n6))
    simpa using this
  · have hk' : k < d.s1.has.length := by have : devSize d 1 = d.s1.has.length := rfl; omega
    refine ⟨p.r1, p.c1, d.s1.has.length, h.s.cell 1 _ rfl, rfl, hk', h.h1.get k _ (by show d.s1.has[k]? = some (d.s1.has.getD k _); rw [List.getD_eq_getElem?_getD, List.getElem?_eq_getElem hk']; rfl), h.h1.free k, by simp [RefP.fp], fun s => ?_⟩
    have hc := chg_set w p.r1 k (.string s)
    have e2 : setHas d (1, (k : Int)) s = { d with s1 := { d.s1 with has := d.s1.has.set k s } } := by unfold setHas; rw [if_neg (by simp), Int.toNat_natCast]
    have hw : ∀ x ∈ d.waits, locOk (setHas d (1, (k : Int)) s) x.1 := fun x hx => by have := h.wok x hx; unfold locOk at *; rw [size_setHas]; exact this
    rw [e2] at hw ⊢
    refine ⟨h.box.of (hc.block p.b h.box.lt (by simpa using n4)), ?_, h.g.of (hc.block p.gb h.g.lt (by simpa using n9)), h.h0.chg hc (by simpa using n10), h.h1.set k s, h.wt.of fun b hb hlt => hc.block b hlt (by simpa using Ne.symm (n11 b hb).2.2.2.2), h.nd, h.n0, by simpa using h.n1, hw⟩
    have := h.s.of (hc.block p.sb h.s.lt (by simpa using n7))
    simpa using this
theorem foldHas_same (l : List WrD) : ∀ d : DevD, (foldHas d l).s0.lost = d.s0.lost ∧ (foldHas d l).s1.lost = d.s1.lost ∧ (foldHas d l).waits = d.waits := by
  induction l with
  | nil => intro d; exact ⟨rfl, rfl, rfl⟩
  | cons x l ih =>
    intro d
    obtain ⟨h1, h2, h3⟩ := ih (setHas d x.1 x.2)
    obtain ⟨g1, g2, g3⟩ := lost_setHas0 d x.1 x.2
    exact ⟨h1.trans g1, h2.trans g2, h3.trans g3⟩
theorem crash_parts (d : DevD) (keep : List Bool) : (crashD d keep).s0.has = (foldHas d (keptN d.waits keep d.waits.length)).s0.has ∧ (crashD d keep).s1.has = (foldHas d (keptN d.waits keep d.waits.length)).s1.has ∧ (crashD d keep).s0.lost = d.s0.lost ∧ (crashD d keep).s1.lost = d.s1.lost ∧ (crashD d keep).waits = [] := by
  have h := foldHas_same (keptL d.waits keep) d
  exact ⟨rfl, rfl, h.1, h.2.1, rfl⟩

set_option maxRecDepth 100000 in
set_option maxHeartbeats 4000000 in
theorem rcrash_any (p : RefP) (d : DevD) (ka : Option Addr) (kc : Nat) (keep : List Bool) (w : World) (h : RefAt w p d) (hk : Sl w Value.bool ka keep) (hkf : keep ≠ [] → ∀ b off, ka = some ⟨b, off, none⟩ → b ∉ p.fp) (hlen : d.waits.length ≤ 100000) :
    Calls Try.prog 26 #[.pointer (some ⟨p.b, 0, none⟩), .slice ka keep.length kc] w fun e w' => e = .returned (.int .i64 0) ∧ RefTo p (crashD d keep) w w' := by
  have HP := Lib.hid h.lt
  have HL := Lib.hid (And.intro hlen hlen)
  have HK := Lib.hid (And.intro hk hkf)
  have HCP := Lib.hid (crash_parts d keep)
  have HWO := Lib.hid h.wok
  have J0 : Hid (RefAt w p (foldHas d (keptN d.waits keep 0)) ∧ Chg p.fp w w) := ⟨h, Chg.refl _ _⟩
  clear h hk hkf hlen
  go_enter Try.func26, Try.ntmps26
  go_wp2
  go_loopw [5] (fun i wr => ∃ j : Nat, j ≤ d.waits.length ∧ i = .int .i64 j ∧ Hid (RefAt wr p (foldHas d (keptN d.waits keep j)) ∧ Chg p.fp w wr)) (fun i _ => d.waits.length - (RowKit.intOf i).toNat)
  case atStart => exact ⟨0, Nat.zero_le _, rfl, J0⟩
  case round =>
    clear J0
    obtain ⟨j, hj, rfl, HJ⟩ := hrel
    have HW := Lib.hid (foldHas_same (keptN d.waits keep j) d).2.2
    obtain ⟨wa, wc, hwv, hget⟩ := HJ.out.1.wt.view
    rw [HW.out] at hwv hget
    have g2 := HJ.out.1.box.cell 2 _ rfl
    rw [hwv] at g2
    by_cases hlt : j < d.waits.length
    · have hj0 : (0 : Int) ≤ (j : Int) := by omega
      have hjl : (j : Int) < (d.waits.length : Int) := by omega
      have hjh : (j : Int) ≤ 100000 := by have := HL.out.1; omega
      have HLT := Lib.hid hlt
      obtain ⟨wg, rfl, _, c0, c1, c2⟩ := hget j hlt
      have HX1 : Hid (keep.getD j false = true → foldHas d (keptN d.waits keep (j + 1)) = setHas (foldHas d (keptN d.waits keep j)) (d.waits[j]).1 (d.waits[j]).2) := fun hb => by rw [keptN_yes d.waits keep j hlt hb, foldHas_snoc]; rfl
      have HX0 : Hid (keep.getD j false = false → foldHas d (keptN d.waits keep (j + 1)) = foldHas d (keptN d.waits keep j)) := fun hb => by rw [keptN_no d.waits keep j hb]
      have HOK : Hid (locOk (foldHas d (keptN d.waits keep j)) (d.waits[j]).1) := by
        have := HWO.out _ (List.getElem_mem hlt)
        show locOk _ _
        unfold locOk at *
        rw [size_foldHas]
        exact this
      generalize d.waits[j] = x at *
      obtain ⟨⟨x1, x2⟩, xs⟩ := x
      dsimp only at c0 c1 c2 HX1 HOK
      obtain ⟨D, hD⟩ : ∃ D, D = foldHas d (keptN d.waits keep j) := ⟨_, rfl⟩
      obtain ⟨D', hD'⟩ : ∃ D', D' = foldHas d (keptN d.waits keep (j + 1)) := ⟨_, rfl⟩
      have HD' := Lib.hid hD'
      rw [← hD] at HX1 HX0 HOK HJ
      rw [← hD'] at HX1 HX0
      clear hlt hget hD hD'
      by_cases hin : j < keep.length
      rotate_left
      · have hd : ¬ (j : Int) < (keep.length : Int) := by omega
        have HX : Hid (RefAt wr p D' ∧ Chg p.fp w wr) := by
          have := HX0.out (by rw [List.getD_eq_getElem?_getD, List.getElem?_eq_none (by omega)]; rfl)
          rw [this]
          exact HJ.out
        rw [HD'.out] at HX
        clear hin HJ c0 c1 c2
        go_wp2
        go_roundw
        case rel => exact ⟨j + 1, HLT.out, by go_num, HX⟩
        case measure => have := HLT.out; simp [RowKit.intOf]; omega
      have hin2 : (j : Int) < (keep.length : Int) := by omega
      obtain ⟨kb, ko, rfl, hkb, hcell⟩ := HK.out.1 (by intro e; rw [e] at hin; simp at hin)
      have hkc : wr.cell? ⟨kb, ko + j, none⟩ = some (.bool keep[j]) := by
        have hb := HJ.out.2.block kb hkb (HK.out.2 (by intro e; rw [e] at hin; simp at hin) kb ko rfl)
        rw [show wr.cell? ⟨kb, ko + j, none⟩ = w.cell? ⟨kb, ko + j, none⟩ by simp only [World.cell?, hb]]
        exact hcell j keep[j] (List.getElem?_eq_getElem hin)
      have hgd : keep.getD j false = keep[j] := by rw [List.getD_eq_getElem?_getD, List.getElem?_eq_getElem hin]; rfl
      rw [hgd] at HX1 HX0
      cases hb : keep[j]
      · rw [hb] at hkc HX0
        have HX : Hid (RefAt wr p D' ∧ Chg p.fp w wr) := by
          have := HX0.out rfl
          rw [this]
          exact HJ.out
        rw [HD'.out] at HX
        clear HX1 HX0
        clear hin HJ c0 c1 c2 hb hgd hcell hkb
        go_wp2
        go_roundw
        case rel => exact ⟨j + 1, HLT.out, by go_num, HX⟩
        case measure => have := HLT.out; simp [RowKit.intOf]; omega
      · rw [hb] at hkc HX1
        have HX := Lib.hid (HX1.out rfl)
        clear HX0 HX1
        clear hin hb hgd hcell hkb
        obtain ⟨ha, h0, h1⟩ := HOK.out
        dsimp only at ha h0 h1
        obtain ⟨k, rfl⟩ : ∃ k : Nat, x2 = (k : Int) := ⟨x2.toNat, by omega⟩
        obtain ⟨r, c, n, q1, q2, q3, q4, q5, q6, q7⟩ := side_put (HJ.out.1.chg (Chg.refl [] wr).drew (fun _ _ h => by cases h)) ha h1
        obtain ⟨a', rfl⟩ : ∃ a' : Nat, x1 = (a' : Int) := ⟨x1.toNat, by omega⟩
        rw [Int.toNat_natCast] at q1
        have a2 : (a' : Int) < 2 := by omega
        have n2 : (k : Int) < (n : Int) := by omega
        have g0 := HJ.out.1.box.cell 0 _ rfl
        have J2 : Hid (RefAt (wr.drew.setCell ⟨r, k, none⟩ (.string xs)) p D' ∧ Chg p.fp w (wr.drew.setCell ⟨r, k, none⟩ (.string xs))) := by
          rw [HX.out]
          exact ⟨q7 xs, HJ.out.2.drew.set r k _ (.inl q6)⟩
        rw [HD'.out] at J2
        clear ha h0 h1 q2 q3 q6 q7 HJ
        go_wp2_with fail
        refine wp_region_tree (fun W => W.cell? ⟨p.b, 0, none⟩ = some (.slice (some ⟨p.sb, 0, none⟩) 2 2) ∧ W.cell? ⟨p.b, 2, none⟩ = some (.slice (some ⟨wg, 0, none⟩) d.waits.length wc) ∧ W.cell? ⟨wg, j * 3, none⟩ = some (.int .i64 (a' : Int)) ∧ W.cell? ⟨wg, j * 3 + 1, none⟩ = some (.int .i64 (k : Int)) ∧ W.cell? ⟨wg, j * 3 + 2, none⟩ = some (.string xs) ∧ W.cell? ⟨p.sb, a', none⟩ = some (.slice (some ⟨r, 0, none⟩) n c)) 32 (.quiet 0 (.quiet 1 (.quiet 2 (.quiet 3 (.quiet 4 (.quiet 5 (.quiet 6 (.quiet 7 (.quiet 8 (.quiet 9 (.quiet 10 (.quiet 11 (.quiet 12 (.quiet 13 (.quiet 14 (.quiet 15 (.quiet 16 (.quiet 17 (.quiet 18 (.quiet 19 (.quiet 20 (.quiet 21 (.quiet 22 (.quiet 23 (.quiet 24 (.quiet 25 (.quiet 26 (.quiet 27 (.quiet 28 (.quiet 29 (.quiet 30 (.quiet 31 .nil)))))))))))))))))))))))))))))))) (by kernel_rfl) (by kernel_rfl) ⟨g0, g2, c0, c1, c2, q1⟩ ?_
        simp only [List.drop_succ_cons, List.drop_zero]
        iterate 32 (apply wpTr_step rfl; (intro W hS K hK; obtain ⟨z0, z1, z2, z3, z4, z5⟩ := hS; go_simp; exact hK _ rfl))
        refine wpTr_nil ?_
        go_wp2
        go_roundw
        case rel => exact ⟨j + 1, HLT.out, by go_num, J2⟩
        case measure => have := HLT.out; simp [RowKit.intOf]; omega
    · obtain rfl : j = d.waits.length := by omega
      have f2 := HJ.out.1.box.free 2
      obtain ⟨_, hto⟩ := HJ.out.1.waitsTo (v' := .slice none 0 0) (ws := []) HJ.out.2 (Chg.refl _ _) (Rws.nil _) (fun k hk => by cases hk) (fun x hx => by cases hx)
      have HTO := Lib.hid (hto.as (d' := crashD d keep) HCP.out.1 HCP.out.2.1 (HCP.out.2.2.1.trans (foldHas_same _ d).1.symm) (HCP.out.2.2.2.1.trans (foldHas_same _ d).2.1.symm) HCP.out.2.2.2.2)
      clear hto HJ hget
      go_wp2
      go_ret
      exact ⟨rfl, HTO.out⟩
end Go.Proofs.Ytflobdhhjfpcdaa
