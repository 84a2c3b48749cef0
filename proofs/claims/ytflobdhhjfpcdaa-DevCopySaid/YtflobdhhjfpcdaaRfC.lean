/-
  The reference's devices: Read.
-/
import Derived.Test.YtflobdhhjfpcdaaRfB
import Derived.Test.YtflobdhhjfpcdaaDevMath
namespace Go.Proofs.Ytflobdhhjfpcdaa
open Go.RowKit Go.ChangeShapes Go.WideShapes Go.ChangeAt

/-- What the last of some writes to a sector leaves there. -/
def fdW (l : Int × Int) (s : ByteArray) (x : WrD) : ByteArray := if x.1 = l then x.2 else s
def rtell (d : DevD) (l : Int × Int) : ByteArray := if chkD d l 0 = 0 then d.waits.foldl (fdW l) (hasAt d l) else ⟨#[]⟩
theorem fdW_snoc (l : Int × Int) (s : ByteArray) (ws : List WrD) (k : Nat) (h : k < ws.length) : (ws.take (k + 1)).foldl (fdW l) s = fdW l ((ws.take k).foldl (fdW l) s) ws[k] := by
  rw [List.take_succ_eq_append_getElem h, List.foldl_append]
  rfl
/-- What Read goes by: the asked sector's box, the devices. -/
structure RdJ (w : World) (p : RefP) (d : DevD) (g : Nat) (a b : Int) (W : World) : Prop where
  bx : Box W g 29 #[.int .i64 a, .int .i64 b]
  rf : RefAt W p d
  bl : Below w.heap.size w W
theorem RdJ.keep {w : World} {p : RefP} {d : DevD} {g : Nat} {a b : Int} {W W' : World} (h : RdJ w p d g a b W) (hb : Below W.heap.size W W') : RdJ w p d g a b W' :=
  ⟨h.bx.keep hb h.bx.lt, h.rf.keep hb, h.bl.trans (hb.mono h.bl.size)⟩
theorem RdJ.drew {w : World} {p : RefP} {d : DevD} {g : Nat} {a b : Int} {W : World} (h : RdJ w p d g a b W) : RdJ w p d g a b W.drew := h.keep (Below.refl _ _).drew
theorem side_get {w : World} {p : RefP} {d : DevD} {a : Int} {k : Nat} (h : RefAt w p d) (ha : a = 0 ∨ a = 1) (hk : (k : Int) < (devSize d a : Int)) :
    ∃ r c n, w.cell? ⟨p.sb, a.toNat, none⟩ = some (.slice (some ⟨r, 0, none⟩) n c) ∧ (n : Int) = devSize d a ∧ k < n ∧ w.cell? ⟨r, k, none⟩ = some (.string (hasAt d (a, k))) ∧ w.frozen? ⟨r, k, none⟩ = false := by
  rcases ha with rfl | rfl
  · have hk' : k < d.s0.has.length := by have : devSize d 0 = d.s0.has.length := rfl; omega
    exact ⟨p.r0, p.c0, d.s0.has.length, h.s.cell 0 _ rfl, rfl, hk', h.h0.get k _ (by show d.s0.has[k]? = some (d.s0.has.getD k _); rw [List.getD_eq_getElem?_getD, List.getElem?_eq_getElem hk']; rfl), h.h0.free k⟩
  · have hk' : k < d.s1.has.length := by have : devSize d 1 = d.s1.has.length := rfl; omega
    exact ⟨p.r1, p.c1, d.s1.has.length, h.s.cell 1 _ rfl, rfl, hk', h.h1.get k _ (by show d.s1.has[k]? = some (d.s1.has.getD k _); rw [List.getD_eq_getElem?_getD, List.getElem?_eq_getElem hk']; rfl), h.h1.free k⟩

set_option maxRecDepth 100000 in
set_option maxHeartbeats 4000000 in
theorem rread_any (p : RefP) (d : DevD) (l : Int × Int) (w : World) (h : RefAt w p d) (hlen : d.waits.length ≤ 100000) : Calls Try.prog 13 #[.pointer (some ⟨p.b, 0, none⟩), locV l] w fun e w' => e = .returned (.tuple #[.string (rtell d l), .int .i64 (chkD d l 0)]) ∧ Below w.heap.size w w' := by
  obtain ⟨a, b⟩ := l
  unfold locV
  have hx := (Below.refl w.heap.size w).alloc (Nat.le_refl _) (.cells #[.int .i64 a, .int .i64 b] 29)
  have J0 : Hid (RdJ w p d w.heap.size a b (w.alloc (.cells #[.int .i64 a, .int .i64 b] 29))) := ⟨Box.new w _ _, h.keep hx, hx⟩
  have HT : Hid (rtell d (a, b) = if chkD d (a, b) 0 = 0 then d.waits.foldl (fdW (a, b)) (hasAt d (a, b)) else ⟨#[]⟩) := rfl
  have HL := Lib.hid hlen
  have HWR := Lib.hid (fun W (h : RefAt W p d) => rwrong_any p d (a, b) ⟨#[]⟩ W h)
  clear h hx hlen
  go_enter Try.func13, Try.ntmps13
  have k0 := J0.out.bx.cell 0 _ rfl
  have k1 := J0.out.bx.cell 1 _ rfl
  go_wp2_with fail
  generalize World.alloc w _ = wx at *
  obtain ⟨g, hg⟩ : ∃ g, g = w.heap.size := ⟨_, rfl⟩
  rw [← hg] at J0 ⊢
  clear hg k0 k1
  refine (HWR.out wx J0.out.rf).mono ?_
  rintro e w1 ⟨rfl, hb⟩
  rw [show (⟨#[]⟩ : ByteArray).size = 0 from rfl]
  have J1 := Lib.hid (J0.out.keep hb)
  clear hb J0 HWR
  by_cases hc : chkD d (a, b) 0 = 0
  rotate_left
  · have HR : Hid (rtell d (a, b) = ⟨#[]⟩) := by show _ = _; rw [HT.out, if_neg hc]
    have hn : (chkD d (a, b) 0 != 0) = true := by rw [bne_iff_ne]; exact hc
    clear hc HT
    go_wp2
    go_ret2
    exact ⟨by rw [HR.out]; rfl, J1.out.bl⟩
  obtain ⟨ha, h0, h1, _, _⟩ := chkD_ok hc
  dsimp only at ha h0 h1
  rw [hc]
  rw [if_pos hc] at HT
  have HC0 := Lib.hid hc
  clear hc
  obtain ⟨k, rfl⟩ : ∃ k : Nat, b = (k : Int) := ⟨b.toNat, by omega⟩
  obtain ⟨r, c, n, q1, q2, q3, q4, _⟩ := side_get (J1.out.drew).rf ha h1
  have HA := Lib.hid (And.intro ha (And.intro h1 q2))
  obtain ⟨a', rfl⟩ : ∃ a' : Nat, a = (a' : Int) := ⟨a.toNat, by omega⟩
  rw [Int.toNat_natCast] at q1
  have g0 := J1.out.drew.bx.cell 0 _ rfl
  have g1 := J1.out.drew.bx.cell 1 _ rfl
  have g2 := J1.out.drew.rf.box.cell 0 _ rfl
  have a2 : (a' : Int) < 2 := by omega
  have n2 : (k : Int) < (n : Int) := by omega
  have J2 := Lib.hid J1.out.drew
  obtain ⟨s0, hs0⟩ : ∃ s0, s0 = hasAt d ((a' : Int), (k : Int)) := ⟨_, rfl⟩
  rw [← hs0] at q4 HT
  clear hs0 h0 h1 ha q2 q3 J1
  go_wp2_with fail
  refine wp_region_tree (fun W => W.cell? ⟨g, 0, none⟩ = some (.int .i64 (a' : Int)) ∧ W.cell? ⟨g, 1, none⟩ = some (.int .i64 (k : Int)) ∧ W.cell? ⟨p.b, 0, none⟩ = some (.slice (some ⟨p.sb, 0, none⟩) 2 2) ∧ W.cell? ⟨p.sb, a', none⟩ = some (.slice (some ⟨r, 0, none⟩) n c)) 10 (.quiet 0 (.quiet 1 (.quiet 2 (.quiet 3 (.quiet 4 (.quiet 5 (.quiet 6 (.quiet 7 (.quiet 8 (.quiet 9 .nil)))))))))) (by kernel_rfl) (by kernel_rfl) ⟨g0, g1, g2, q1⟩ ?_
  simp only [List.drop_succ_cons, List.drop_zero]
  iterate 10 (apply wpTr_step rfl; (intro W hS K hK; obtain ⟨z0, z1, z2, z3⟩ := hS; go_simp; exact hK _ rfl))
  refine wpTr_nil ?_
  go_wp2
  generalize World.drew w1 = w2 at *
  clear g0 g1 g2 q1 q4 a2 n2
  go_loopw [7, 8] (fun s i wr => ∃ j : Nat, j ≤ d.waits.length ∧ i = .int .i64 j ∧ s = .string ((d.waits.take j).foldl (fdW ((a' : Int), (k : Int))) s0) ∧ Hid (RdJ w p d g a' k wr)) (fun _ i _ => d.waits.length - (RowKit.intOf i).toNat)
  case atStart => exact ⟨0, Nat.zero_le _, rfl, rfl, J2⟩
  case round =>
    clear J2
    obtain ⟨j, hj, rfl, rfl, HJ⟩ := hrel
    obtain ⟨wa, wc, hwv, hget⟩ := HJ.out.rf.wt.view
    have g2 := HJ.out.rf.box.cell 2 _ rfl
    rw [hwv] at g2
    by_cases hlt : j < d.waits.length
    · have hj0 : (0 : Int) ≤ (j : Int) := by omega
      have hjl : (j : Int) < (d.waits.length : Int) := by omega
      have hjh : (j : Int) ≤ 100000 := by have := HL.out; omega
      have HLT := Lib.hid hlt
      have HSN := Lib.hid (fdW_snoc ((a' : Int), (k : Int)) s0 d.waits j hlt)
      obtain ⟨wg, rfl, _, c0, c1, c2⟩ := hget j hlt
      have g0 := HJ.out.bx.cell 0 _ rfl
      have g1 := HJ.out.bx.cell 1 _ rfl
      have J2 := Lib.hid HJ.out.drew
      obtain ⟨t, ht⟩ : ∃ t, t = (d.waits.take j).foldl (fdW ((a' : Int), (k : Int))) s0 := ⟨_, rfl⟩
      rw [← ht] at HSN ⊢
      generalize d.waits[j] = x at *
      clear hlt hget HJ ht
      obtain ⟨⟨x1, x2⟩, xs⟩ := x
      dsimp only at c0 c1 c2
      have d0 : wr.drew.cell? ⟨wg, j * 3 + 2, none⟩ = some (.string xs) := c2
      have d2 : wr.drew.cell? ⟨p.b, 2, none⟩ = some (.slice (some ⟨wg, 0, none⟩) d.waits.length wc) := g2
      have hq : ∀ W, (Op.equalIn 10000 29 (.agg #[.int .i64 x1, .int .i64 x2]) (.agg #[.int .i64 (a' : Int), .int .i64 (k : Int)])).run Try.prog W = .ok (x1 == (a' : Int) && x2 == (k : Int)) W := fun W => eqLocD x1 x2 a' k W
      by_cases hx : ((x1, x2) : Int × Int) = ((a' : Int), (k : Int))
      · have hbx : (x1 == (a' : Int) && x2 == (k : Int)) = true := by injection hx with e1 e2; rw [e1, e2]; simp
        have HN : Hid ((d.waits.take (j + 1)).foldl (fdW ((a' : Int), (k : Int))) s0 = xs) := by show _ = _; rw [HSN.out]; exact if_pos hx
        rw [hbx] at hq
        clear hx hbx HSN
        go_wp2_with fail
        refine wp_region_tree (fun W => W.cell? ⟨p.b, 2, none⟩ = some (.slice (some ⟨wg, 0, none⟩) d.waits.length wc) ∧ W.cell? ⟨wg, j * 3, none⟩ = some (.int .i64 x1) ∧ W.cell? ⟨wg, j * 3 + 1, none⟩ = some (.int .i64 x2) ∧ W.cell? ⟨g, 0, none⟩ = some (.int .i64 (a' : Int)) ∧ W.cell? ⟨g, 1, none⟩ = some (.int .i64 (k : Int))) 9 (.quiet 0 (.quiet 1 (.quiet 2 (.quiet 3 (.quiet 4 (.quiet 5 (.quiet 6 (.quiet 7 (.quiet 8 .nil))))))))) (by kernel_rfl) (by kernel_rfl) ⟨g2, c0, c1, g0, g1⟩ ?_
        simp only [List.drop_succ_cons, List.drop_zero]
        iterate 9 (apply wpTr_step rfl; (intro W hS K hK; obtain ⟨z0, z1, z2, z3, z4⟩ := hS; go_simp; exact hK _ rfl))
        refine wpTr_nil ?_
        go_wp2
        go_roundw
        case rel => exact ⟨j + 1, HLT.out, by go_num, by rw [HN.out], J2⟩
        case measure => have := HLT.out; simp [RowKit.intOf]; omega
      · have hbx : (x1 == (a' : Int) && x2 == (k : Int)) = false := by
          rw [Bool.and_eq_false_iff]
          by_cases e : x1 = (a' : Int)
          · right
            rw [beq_eq_false_iff_ne]
            intro e2
            exact hx (by rw [e, e2])
          · left
            rw [beq_eq_false_iff_ne]
            exact e
        have HN : Hid ((d.waits.take (j + 1)).foldl (fdW ((a' : Int), (k : Int))) s0 = t) := by show _ = _; rw [HSN.out]; exact if_neg hx
        rw [hbx] at hq
        clear hx hbx HSN
        go_wp2_with fail
        refine wp_region_tree (fun W => W.cell? ⟨p.b, 2, none⟩ = some (.slice (some ⟨wg, 0, none⟩) d.waits.length wc) ∧ W.cell? ⟨wg, j * 3, none⟩ = some (.int .i64 x1) ∧ W.cell? ⟨wg, j * 3 + 1, none⟩ = some (.int .i64 x2) ∧ W.cell? ⟨g, 0, none⟩ = some (.int .i64 (a' : Int)) ∧ W.cell? ⟨g, 1, none⟩ = some (.int .i64 (k : Int))) 9 (.quiet 0 (.quiet 1 (.quiet 2 (.quiet 3 (.quiet 4 (.quiet 5 (.quiet 6 (.quiet 7 (.quiet 8 .nil))))))))) (by kernel_rfl) (by kernel_rfl) ⟨g2, c0, c1, g0, g1⟩ ?_
        simp only [List.drop_succ_cons, List.drop_zero]
        iterate 9 (apply wpTr_step rfl; (intro W hS K hK; obtain ⟨z0, z1, z2, z3, z4⟩ := hS; go_simp; exact hK _ rfl))
        refine wpTr_nil ?_
        go_wp2
        go_roundw
        case rel => exact ⟨j + 1, HLT.out, by go_num, by rw [HN.out], J2⟩
        case measure => have := HLT.out; simp [RowKit.intOf]; omega
    · obtain rfl : j = d.waits.length := by omega
      rw [List.take_length]
      go_wp2
      go_ret2
      exact ⟨by rw [HT.out, HC0.out]; rfl, HJ.out.bl⟩
end Go.Proofs.Ytflobdhhjfpcdaa
