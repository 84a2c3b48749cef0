/-
  The reference's devices: Is, wrong.
-/
import Derived.Test.YtflobdhhjfpcdaaRfA
namespace Go.Proofs.Ytflobdhhjfpcdaa
open Go.RowKit Go.ChangeShapes Go.WideShapes Go.ChangeAt

instance (d : DevD) (l : Int × Int) : Decidable (locOk d l) := by unfold locOk; infer_instance

set_option maxRecDepth 100000 in
set_option maxHeartbeats 2000000 in
theorem ris_any (p : RefP) (d : DevD) (l : Int × Int) (w : World) (h : RefAt w p d) : Calls Try.prog 39 #[.pointer (some ⟨p.b, 0, none⟩), locV l] w fun e w' => e = .returned (.bool (decide (locOk d l))) ∧ Below w.heap.size w w' := by
  obtain ⟨a, b⟩ := l
  unfold locV
  have hx := Lib.hid ((Below.refl w.heap.size w).alloc (Nat.le_refl _) (.cells #[.int .i64 a, .int .i64 b] 29))
  have BX := Lib.hid (Box.new w 29 #[.int .i64 a, .int .i64 b])
  have HX := Lib.hid (h.keep hx.out)
  clear h
  go_enter Try.func39, Try.ntmps39
  go_wp2_with fail
  generalize World.alloc w _ = wx at *
  obtain ⟨g, hg⟩ : ∃ g, g = w.heap.size := ⟨_, rfl⟩
  rw [← hg] at BX ⊢
  clear hg
  have k0 := BX.out.cell 0 _ rfl
  have k1 := BX.out.cell 1 _ rfl
  have k2 := HX.out.box.cell 0 _ rfl
  have k3 := HX.out.s.cell 0 _ rfl
  have k4 := HX.out.s.cell 1 _ rfl
  clear BX HX
  by_cases a0 : a = 0
  · subst a0
    by_cases b0 : 0 ≤ b
    · have db : decide (0 ≤ b) = true := decide_eq_true b0
      have HR : Hid (decide (locOk d (0, b)) = decide (b < (d.s0.has.length : Int))) := by
        show _ = _
        exact decide_eq_decide.2 ⟨fun h => h.2.2, fun h => ⟨.inl rfl, b0, h⟩⟩
      clear b0
      have hd := (Below.refl wx.heap.size wx).drew
      have L1 := Lib.hid (hx.out.trans (hd.mono hx.out.size))
      refine wp_region_tree (fun W => W.cell? ⟨g, 0, none⟩ = some (.int .i64 0) ∧ W.cell? ⟨g, 1, none⟩ = some (.int .i64 b) ∧ W.cell? ⟨p.b, 0, none⟩ = some (.slice (some ⟨p.sb, 0, none⟩) 2 2) ∧ W.cell? ⟨p.sb, 0, none⟩ = some (.slice (some ⟨p.r0, 0, none⟩) d.s0.has.length p.c0) ∧ W.cell? ⟨p.sb, 1, none⟩ = some (.slice (some ⟨p.r1, 0, none⟩) d.s1.has.length p.c1)) 25 (.quiet 0 (.quiet 1 (.quiet 2 (.quiet 3 (.quiet 4 (.quiet 5 (.quiet 6 (.quiet 7 (.quiet 8 (.quiet 9 (.quiet 10 (.quiet 11 (.quiet 12 (.quiet 13 (.quiet 14 (.quiet 15 (.quiet 16 (.quiet 17 (.quiet 18 (.quiet 19 (.quiet 20 (.quiet 21 (.quiet 22 (.quiet 23 (.quiet 24 .nil))))))))))))))))))))))))) (by kernel_rfl) (by kernel_rfl) ⟨k0, k1, k2, k3, k4⟩ ?_
      simp only [List.drop_succ_cons, List.drop_zero]
      clear k0 k1 k2 k3 k4 hd
      iterate 25 (apply wpTr_step rfl; (intro W hS K hK; obtain ⟨z0, z1, z2, z3, z4⟩ := hS; go_simp; exact hK _ rfl))
      refine wpTr_nil ?_
      go_wp2
      go_ret
      exact ⟨by rw [HR.out]; rfl, L1.out⟩
    · have db : decide (0 ≤ b) = false := decide_eq_false b0
      have HR : Hid (decide (locOk d (0, b)) = false) := decide_eq_false (fun h => b0 h.2.1)
      clear b0
      have hd := (Below.refl wx.heap.size wx).drew
      have L1 := Lib.hid (hx.out.trans (hd.mono hx.out.size))
      refine wp_region_tree (fun W => W.cell? ⟨g, 0, none⟩ = some (.int .i64 0) ∧ W.cell? ⟨g, 1, none⟩ = some (.int .i64 b) ∧ W.cell? ⟨p.b, 0, none⟩ = some (.slice (some ⟨p.sb, 0, none⟩) 2 2) ∧ W.cell? ⟨p.sb, 0, none⟩ = some (.slice (some ⟨p.r0, 0, none⟩) d.s0.has.length p.c0) ∧ W.cell? ⟨p.sb, 1, none⟩ = some (.slice (some ⟨p.r1, 0, none⟩) d.s1.has.length p.c1)) 25 (.quiet 0 (.quiet 1 (.quiet 2 (.quiet 3 (.quiet 4 (.quiet 5 (.quiet 6 (.quiet 7 (.quiet 8 (.quiet 9 (.quiet 10 (.quiet 11 (.quiet 12 (.quiet 13 (.quiet 14 (.quiet 15 (.quiet 16 (.quiet 17 (.quiet 18 (.quiet 19 (.quiet 20 (.quiet 21 (.quiet 22 (.quiet 23 (.quiet 24 .nil))))))))))))))))))))))))) (by kernel_rfl) (by kernel_rfl) ⟨k0, k1, k2, k3, k4⟩ ?_
      simp only [List.drop_succ_cons, List.drop_zero]
      clear k0 k1 k2 k3 k4 hd
      iterate 25 (apply wpTr_step rfl; (intro W hS K hK; obtain ⟨z0, z1, z2, z3, z4⟩ := hS; go_simp; exact hK _ rfl))
      refine wpTr_nil ?_
      go_wp2
      go_ret
      exact ⟨by rw [HR.out]; rfl, L1.out⟩
  by_cases a1 : a = 1
  · subst a1
    by_cases b0 : 0 ≤ b
    · have db : decide (0 ≤ b) = true := decide_eq_true b0
      have HR : Hid (decide (locOk d (1, b)) = decide (b < (d.s1.has.length : Int))) := by
        show _ = _
        exact decide_eq_decide.2 ⟨fun h => h.2.2, fun h => ⟨.inr rfl, b0, h⟩⟩
      clear b0
      have hd := (Below.refl wx.heap.size wx).drew
      have L1 := Lib.hid (hx.out.trans (hd.mono hx.out.size))
      refine wp_region_tree (fun W => W.cell? ⟨g, 0, none⟩ = some (.int .i64 1) ∧ W.cell? ⟨g, 1, none⟩ = some (.int .i64 b) ∧ W.cell? ⟨p.b, 0, none⟩ = some (.slice (some ⟨p.sb, 0, none⟩) 2 2) ∧ W.cell? ⟨p.sb, 0, none⟩ = some (.slice (some ⟨p.r0, 0, none⟩) d.s0.has.length p.c0) ∧ W.cell? ⟨p.sb, 1, none⟩ = some (.slice (some ⟨p.r1, 0, none⟩) d.s1.has.length p.c1)) 25 (.quiet 0 (.quiet 1 (.quiet 2 (.quiet 3 (.quiet 4 (.quiet 5 (.quiet 6 (.quiet 7 (.quiet 8 (.quiet 9 (.quiet 10 (.quiet 11 (.quiet 12 (.quiet 13 (.quiet 14 (.quiet 15 (.quiet 16 (.quiet 17 (.quiet 18 (.quiet 19 (.quiet 20 (.quiet 21 (.quiet 22 (.quiet 23 (.quiet 24 .nil))))))))))))))))))))))))) (by kernel_rfl) (by kernel_rfl) ⟨k0, k1, k2, k3, k4⟩ ?_
      simp only [List.drop_succ_cons, List.drop_zero]
      clear k0 k1 k2 k3 k4 hd
      iterate 25 (apply wpTr_step rfl; (intro W hS K hK; obtain ⟨z0, z1, z2, z3, z4⟩ := hS; go_simp; exact hK _ rfl))
      refine wpTr_nil ?_
      go_wp2
      go_ret
      exact ⟨by rw [HR.out]; rfl, L1.out⟩
    · have db : decide (0 ≤ b) = false := decide_eq_false b0
      have HR : Hid (decide (locOk d (1, b)) = false) := decide_eq_false (fun h => b0 h.2.1)
      clear b0
      have hd := (Below.refl wx.heap.size wx).drew
      have L1 := Lib.hid (hx.out.trans (hd.mono hx.out.size))
      refine wp_region_tree (fun W => W.cell? ⟨g, 0, none⟩ = some (.int .i64 1) ∧ W.cell? ⟨g, 1, none⟩ = some (.int .i64 b) ∧ W.cell? ⟨p.b, 0, none⟩ = some (.slice (some ⟨p.sb, 0, none⟩) 2 2) ∧ W.cell? ⟨p.sb, 0, none⟩ = some (.slice (some ⟨p.r0, 0, none⟩) d.s0.has.length p.c0) ∧ W.cell? ⟨p.sb, 1, none⟩ = some (.slice (some ⟨p.r1, 0, none⟩) d.s1.has.length p.c1)) 25 (.quiet 0 (.quiet 1 (.quiet 2 (.quiet 3 (.quiet 4 (.quiet 5 (.quiet 6 (.quiet 7 (.quiet 8 (.quiet 9 (.quiet 10 (.quiet 11 (.quiet 12 (.quiet 13 (.quiet 14 (.quiet 15 (.quiet 16 (.quiet 17 (.quiet 18 (.quiet 19 (.quiet 20 (.quiet 21 (.quiet 22 (.quiet 23 (.quiet 24 .nil))))))))))))))))))))))))) (by kernel_rfl) (by kernel_rfl) ⟨k0, k1, k2, k3, k4⟩ ?_
      simp only [List.drop_succ_cons, List.drop_zero]
      clear k0 k1 k2 k3 k4 hd
      iterate 25 (apply wpTr_step rfl; (intro W hS K hK; obtain ⟨z0, z1, z2, z3, z4⟩ := hS; go_simp; exact hK _ rfl))
      refine wpTr_nil ?_
      go_wp2
      go_ret
      exact ⟨by rw [HR.out]; rfl, L1.out⟩
  have d0 : (a == 0) = false := beq_eq_false_iff_ne.2 a0
  have d1 : (a == 1) = false := beq_eq_false_iff_ne.2 a1
  have HR : Hid (decide (locOk d (a, b)) = false) := decide_eq_false (fun h => by rcases h.1 with e | e; exact a0 e; exact a1 e)
  clear a0 a1
  have hd := (Below.refl wx.heap.size wx).drew
  have L1 := Lib.hid (hx.out.trans (hd.mono hx.out.size))
  refine wp_region_tree (fun W => W.cell? ⟨g, 0, none⟩ = some (.int .i64 a) ∧ W.cell? ⟨g, 1, none⟩ = some (.int .i64 b) ∧ W.cell? ⟨p.b, 0, none⟩ = some (.slice (some ⟨p.sb, 0, none⟩) 2 2) ∧ W.cell? ⟨p.sb, 0, none⟩ = some (.slice (some ⟨p.r0, 0, none⟩) d.s0.has.length p.c0) ∧ W.cell? ⟨p.sb, 1, none⟩ = some (.slice (some ⟨p.r1, 0, none⟩) d.s1.has.length p.c1)) 25 (.quiet 0 (.quiet 1 (.quiet 2 (.quiet 3 (.quiet 4 (.quiet 5 (.quiet 6 (.quiet 7 (.quiet 8 (.quiet 9 (.quiet 10 (.quiet 11 (.quiet 12 (.quiet 13 (.quiet 14 (.quiet 15 (.quiet 16 (.quiet 17 (.quiet 18 (.quiet 19 (.quiet 20 (.quiet 21 (.quiet 22 (.quiet 23 (.quiet 24 .nil))))))))))))))))))))))))) (by kernel_rfl) (by kernel_rfl) ⟨k0, k1, k2, k3, k4⟩ ?_
  simp only [List.drop_succ_cons, List.drop_zero]
  clear k0 k1 k2 k3 k4 hd
  iterate 25 (apply wpTr_step rfl; (intro W hS K hK; obtain ⟨z0, z1, z2, z3, z4⟩ := hS; go_simp; exact hK _ rfl))
  refine wpTr_nil ?_
  go_wp2
  go_ret
  exact ⟨by rw [HR.out]; rfl, L1.out⟩

theorem chkD_is (d : DevD) (l : Int × Int) (n : Nat) : chkD d l n = if locOk d l ∧ n ≤ 1024 then (if devLost d l.1 then 5 else 0) else 1 := by
  unfold chkD
  by_cases h : locOk d l ∧ n ≤ 1024
  · rw [if_pos h, if_neg]
    obtain ⟨⟨_, h1, h2⟩, h3⟩ := h
    omega
  · rw [if_neg h, if_pos]
    refine Classical.byContradiction fun hc => h ⟨⟨?_, ?_, ?_⟩, ?_⟩
    · refine Classical.byContradiction fun hd => hc ?_
      have : devSize d l.1 = 0 := by
        unfold devSize
        rw [if_neg (fun e => hd (.inl e)), if_neg (fun e => hd (.inr e))]
      omega
    · omega
    · omega
    · omega

set_option maxRecDepth 100000 in
set_option maxHeartbeats 2000000 in
theorem rwrong_any (p : RefP) (d : DevD) (l : Int × Int) (s : ByteArray) (w : World) (h : RefAt w p d) : Calls Try.prog 30 #[.pointer (some ⟨p.b, 0, none⟩), locV l, .string s] w fun e w' => e = .returned (.int .i64 (chkD d l s.size)) ∧ Below w.heap.size w w' := by
  have HC := Lib.hid (chkD_is d l s.size)
  obtain ⟨a, b⟩ := l
  unfold locV
  have hx := Lib.hid ((Below.refl w.heap.size w).alloc (Nat.le_refl _) (.cells #[.int .i64 a, .int .i64 b] 29))
  have BX := Lib.hid (Box.new w 29 #[.int .i64 a, .int .i64 b])
  have HX := Lib.hid (h.keep hx.out)
  clear h
  go_enter Try.func30, Try.ntmps30
  go_wp2_with fail
  have k0 := BX.out.cell 0 _ rfl
  have k1 := BX.out.cell 1 _ rfl
  go_wp2_with fail
  generalize World.alloc w _ = wx at *
  obtain ⟨g, hg⟩ : ∃ g, g = w.heap.size := ⟨_, rfl⟩
  rw [← hg] at BX ⊢
  clear hg k0 k1
  refine (ris_any p d (a, b) wx HX.out).mono ?_
  rintro e w1 ⟨rfl, hb⟩
  have B1 := Lib.hid (BX.out.keep hb BX.out.lt)
  have H1 := Lib.hid (HX.out.keep hb)
  have L1 := Lib.hid (hx.out.trans (hb.mono hx.out.size))
  clear hb BX HX hx
  by_cases hl : locOk d (a, b)
  rotate_left
  · rw [decide_eq_false hl]
    have HR : Hid (chkD d (a, b) s.size = 1) := by show _ = _; rw [HC.out, if_neg (fun h => hl h.1)]
    clear hl
    go_wp2
    go_ret
    exact ⟨by rw [HR.out]; rfl, L1.out⟩
  rw [decide_eq_true hl]
  by_cases hn : 1024 < s.size
  · have hd : decide ((1024 : Int) < (s.size : Int)) = true := decide_eq_true (by omega)
    have HR : Hid (chkD d (a, b) s.size = 1) := by show _ = _; rw [HC.out, if_neg (fun h => by have := h.2; omega)]
    clear hl hn
    go_wp2
    go_ret
    exact ⟨by rw [HR.out]; rfl, L1.out⟩
  have hd : decide ((1024 : Int) < (s.size : Int)) = false := decide_eq_false (by omega)
  have HR : Hid (chkD d (a, b) s.size = if devLost d a then 5 else 0) := by show _ = _; rw [HC.out, if_pos ⟨hl, by omega⟩]
  clear hn HC
  have k0 := B1.out.cell 0 _ rfl
  have k1 := B1.out.cell 1 _ rfl
  have k2 := H1.out.box.cell 1 _ rfl
  have k3 := H1.out.g.cell 0 _ rfl
  have k4 := H1.out.g.cell 1 _ rfl
  have hdr := (Below.refl w1.heap.size w1).drew
  have L2 := Lib.hid (L1.out.trans (hdr.mono L1.out.size))
  obtain ⟨ha, _, _⟩ := hl
  dsimp only at ha
  clear hdr B1 H1 L1
  go_wp2_with fail
  rcases ha with rfl | rfl
  · rw [show devLost d 0 = d.s0.lost from rfl] at HR
    cases hlost : d.s0.lost
    · rw [hlost] at HR k3
      clear hlost
      refine wp_region_tree (fun W => W.cell? ⟨g, 0, none⟩ = some (.int .i64 0) ∧ W.cell? ⟨p.b, 1, none⟩ = some (.slice (some ⟨p.gb, 0, none⟩) 2 2) ∧ W.cell? ⟨p.gb, 0, none⟩ = _) 6 (.quiet 0 (.quiet 1 (.quiet 2 (.quiet 3 (.quiet 4 (.quiet 5 .nil)))))) (by kernel_rfl) (by kernel_rfl) ⟨k0, k2, k3⟩ ?_
      simp only [List.drop_succ_cons, List.drop_zero]
      iterate 6 (apply wpTr_step rfl; (intro W hS K hK; obtain ⟨z0, z1, z2⟩ := hS; go_simp; exact hK _ rfl))
      refine wpTr_nil ?_
      go_wp2
      go_ret
      exact ⟨by rw [HR.out]; rfl, L2.out⟩
    · rw [hlost] at HR k3
      clear hlost
      refine wp_region_tree (fun W => W.cell? ⟨g, 0, none⟩ = some (.int .i64 0) ∧ W.cell? ⟨p.b, 1, none⟩ = some (.slice (some ⟨p.gb, 0, none⟩) 2 2) ∧ W.cell? ⟨p.gb, 0, none⟩ = _) 6 (.quiet 0 (.quiet 1 (.quiet 2 (.quiet 3 (.quiet 4 (.quiet 5 .nil)))))) (by kernel_rfl) (by kernel_rfl) ⟨k0, k2, k3⟩ ?_
      simp only [List.drop_succ_cons, List.drop_zero]
      iterate 6 (apply wpTr_step rfl; (intro W hS K hK; obtain ⟨z0, z1, z2⟩ := hS; go_simp; exact hK _ rfl))
      refine wpTr_nil ?_
      go_wp2
      go_ret
      exact ⟨by rw [HR.out]; rfl, L2.out⟩
  · rw [show devLost d 1 = d.s1.lost from rfl] at HR
    cases hlost : d.s1.lost
    · rw [hlost] at HR k4
      clear hlost
      refine wp_region_tree (fun W => W.cell? ⟨g, 0, none⟩ = some (.int .i64 1) ∧ W.cell? ⟨p.b, 1, none⟩ = some (.slice (some ⟨p.gb, 0, none⟩) 2 2) ∧ W.cell? ⟨p.gb, 1, none⟩ = _) 6 (.quiet 0 (.quiet 1 (.quiet 2 (.quiet 3 (.quiet 4 (.quiet 5 .nil)))))) (by kernel_rfl) (by kernel_rfl) ⟨k0, k2, k4⟩ ?_
      simp only [List.drop_succ_cons, List.drop_zero]
      iterate 6 (apply wpTr_step rfl; (intro W hS K hK; obtain ⟨z0, z1, z2⟩ := hS; go_simp; exact hK _ rfl))
      refine wpTr_nil ?_
      go_wp2
      go_ret
      exact ⟨by rw [HR.out]; rfl, L2.out⟩
    · rw [hlost] at HR k4
      clear hlost
      refine wp_region_tree (fun W => W.cell? ⟨g, 0, none⟩ = some (.int .i64 1) ∧ W.cell? ⟨p.b, 1, none⟩ = some (.slice (some ⟨p.gb, 0, none⟩) 2 2) ∧ W.cell? ⟨p.gb, 1, none⟩ = _) 6 (.quiet 0 (.quiet 1 (.quiet 2 (.quiet 3 (.quiet 4 (.quiet 5 .nil)))))) (by kernel_rfl) (by kernel_rfl) ⟨k0, k2, k4⟩ ?_
      simp only [List.drop_succ_cons, List.drop_zero]
      iterate 6 (apply wpTr_step rfl; (intro W hS K hK; obtain ⟨z0, z1, z2⟩ := hS; go_simp; exact hK _ rfl))
      refine wpTr_nil ?_
      go_wp2
      go_ret
      exact ⟨by rw [HR.out]; rfl, L2.out⟩
end Go.Proofs.Ytflobdhhjfpcdaa
