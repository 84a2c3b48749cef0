/-
  The reference's Hot.
-/
import Derived.Test.YtgdlnifncmiebaaHeatT
import Derived.Test.YtgdlnifncmiebaaHeatU
import Derived.Test.YtgdlnifncmiebaaPart
namespace Go.Proofs.Ytgdlnifncmiebaa
open Go.RowKit Go.ChangeShapes Go.WideShapes Go.ChangeAt

theorem str_gtr0 (x y : ByteArray) (W : World) : (binOp .gtr 9 (.string x) (.string y)).run Try.prog W = .ok (.bool (!(Op.bytesLess x.toList y.toList || (x.toList == y.toList)))) W := by kernel_rfl
theorem gtr_less (x y : List UInt8) : (!(Op.bytesLess x y || (x == y))) = Op.bytesLess y x := by
  rw [bl_lt, bl_lt]
  by_cases h1 : x < y
  · have h2 : ¬ y < x := fun h => List.lt_irrefl x (List.lt_trans h1 h)
    simp [h1, h2]
  · by_cases h2 : x = y
    · subst h2
      simp
    · have h3 : y < x := by
        rcases Classical.em (y < x) with h | h
        · exact h
        · exact absurd (List.le_antisymm (List.not_lt.1 h) (List.not_lt.1 h1)) h2
      simp [h1, h2, h3]
theorem str_gtr (x y : ByteArray) (W : World) : (binOp .gtr 9 (.string x) (.string y)).run Try.prog W = .ok (.bool (Op.bytesLess y.toList x.toList)) W := by rw [str_gtr0, gtr_less]
theorem ks_slice {w : World} {B : Nat} {v : Value} {l : List ByteArray} (h : Ks w B v l) : ∃ a c, v = .slice a l.length c := by
  rcases h.form with ⟨rfl, rfl⟩ | ⟨g, cap, rfl, _⟩ <;> exact ⟨_, _, rfl⟩
theorem is_low {w : World} {B b : Nat} {v : Value} {l : List Int} (h : Is w B v l) (hb : b ≤ B) : Is w b v l := by
  refine ⟨h.1, ?_⟩
  rcases h.2 with h | ⟨g, cap, cur, h1, h2, h3⟩
  · exact .inl h
  · exact .inr ⟨g, cap, cur, h1, Nat.le_trans hb h2, h3⟩
theorem is_slice {w : World} {B : Nat} {v : Value} {l : List Int} (h : Is w B v l) : ∃ a c, v = .slice a l.length c := by
  rcases h.form with ⟨rfl, rfl⟩ | ⟨g, cap, rfl, _⟩ <;> exact ⟨_, _, rfl⟩

set_option maxRecDepth 100000 in
set_option maxHeartbeats 4000000 in
theorem rhot (b : Nat) (v : Value) (l : List MkD) (now n : Int) (w : World) (h : RefAt w b v l) (hok : OkM l) (hlen : l.length ≤ 10000) (hn : now ≤ 9223372036854775807) :
    Calls Try.prog 20 #[.pointer (some ⟨b, 0, none⟩), .int .i64 now, .int .i64 n] w fun e w' => ∃ v, e = .returned v ∧ (∃ g c, v = .slice g (hotM l now n).length c ∧ Sl w' Value.string g (hotM l now n)) ∧ Below w.heap.size w w' := by
  have HR := Lib.hid h
  have HOK := Lib.hid hok
  have HN := Lib.hid hn
  have HLEN := Lib.hid hlen
  have c0 := h.box.cell 0 _ rfl
  obtain ⟨a, c, rfl⟩ := h.slice
  clear h hok hn
  obtain ⟨H, hH⟩ : ∃ H, H = hotM l now n := ⟨_, rfl⟩
  have HHOT := Lib.hid hH
  rw [← hH]
  clear hH
  go_enter Try.func20, Try.ntmps20
  go_wp2
  go_loopw [7, 8, 9] (fun s t i wr => ∃ (x y : Value) (j : Nat), j ≤ l.length ∧ x = s ∧ y = t ∧ i = .int .i64 j ∧ Hid (Ks wr w.heap.size x ((SJ l now j).map (·.1))) ∧ Hid (Is wr w.heap.size y ((SJ l now j).map (·.2))) ∧ Hid (SJ l now j = [] → x = .slice none 0 0 ∧ y = .slice none 0 0) ∧ Hid (Below w.heap.size w wr)) (fun _ _ i _ => l.length - (intOf i).toNat)
  case atStart => exact ⟨_, _, 0, Nat.zero_le _, rfl, rfl, rfl, by rw [sj_zero]; exact Ks.nil _ _, by rw [sj_zero]; exact Is.nil _ _, fun _ => ⟨rfl, rfl⟩, Below.refl _ _⟩
  case round =>
    rename_i hkl
    obtain ⟨x, y, j, hj, rfl, rfl, rfl, HX, HY, HZ, HB⟩ := hrel
    have cb := (HB.out.cell (p := ⟨b, 0, none⟩) HR.out.box.lt).trans c0
    obtain ⟨xa, xc, hxf⟩ := ks_slice HX.out
    obtain ⟨ya, yc, hyf⟩ := is_slice HY.out
    by_cases hlt : j < l.length
    · clear hkl
      subst hxf hyf
      obtain ⟨g, rfl, q0, q1, q2⟩ := HR.out.at_ HB.out j hlt
      have h0 : (0 : Int) ≤ (j : Int) := by omega
      have h1 : (j : Int) < (l.length : Int) := by omega
      have hx := HOK.out.2 _ (List.getElem_mem hlt)
      have HSJ := Lib.hid (sj_succ (now := now) hlt)
      have HSL := Lib.hid (sj_len l now j)
      have HSO := Lib.hid (sj_order l now j)
      have HIT : Hid (itM now l[j] = if 0 < worthOf l[j].2.1 l[j].2.2 now then some (l[j].1, worthOf l[j].2.1 l[j].2.2 now) else none) := rfl
      have HW := Lib.hid (rworth l[j].1 l[j].2.1 l[j].2.2 now wr hx.1 hx.2.1 hx.2.2.1 HN.out)
      have HWB := Lib.hid (worth_le l[j].2.2 now hx.1)
      generalize l[j] = z at *
      obtain ⟨zk, zc, zt⟩ := z
      dsimp only at q0 q1 q2 HW HWB HIT hx
      generalize worthOf zc zt now = gw at *
      generalize SJ l now j = S at *
      rw [List.length_map] at *
      clear hx
      go_wp2_with fail
      refine HW.out.mono ?_
      rintro e w2 ⟨rfl, hb⟩
      have HB2 := Lib.hid (HB.out.trans (hb.mono HB.out.size))
      have HX2 := Lib.hid (HX.out.keep hb)
      have HY2 := Lib.hid (HY.out.keep hb)
      have p0 := (hb.cell (p := ⟨b, 0, none⟩) (lt_of_cell cb)).trans cb
      have p1 := (hb.cell (p := ⟨g, j * 3, none⟩) (lt_of_cell q0)).trans q0
      clear hb q0 q1 q2 cb HX HY HB
      go_wp2_with fail
      have HP0 := Lib.hid p0
      have HP1 := Lib.hid p1
      have HPA := Lib.hid p0
      have HPB := Lib.hid p1
      clear p0 p1
      by_cases hS : S = []
      · obtain ⟨hz1, hz2⟩ := HZ.out hS
        simp only [Value.slice.injEq] at hz1 hz2
        obtain ⟨rfl, -, rfl⟩ := hz1
        obtain ⟨rfl, -, rfl⟩ := hz2
        subst hS
        have HSN0 : Hid (insI (zk, gw) [] = [(zk, gw)]) := rfl
        clear HX2 HY2 HZ
        simp only [List.length_nil] at *
        go_loopw [11] (fun p wr => p = .int .i64 0 ∧ Hid (Below w2.heap.size w2 wr)) (fun _ _ => 0)
        case atStart => exact ⟨rfl, Below.refl _ _⟩
        case round =>
          obtain ⟨rfl, HBB⟩ := hrel
          go_wp2_with fail
          refine wp_region_sched (fun _ => True) 32 [(0, false), (1, false), (2, false), (3, false), (4, false), (5, false), (6, false), (7, false), (8, false), (9, false), (10, false), (11, false), (12, false), (13, false), (14, false), (15, false), (16, false), (17, false), (18, false), (19, false), (20, false), (21, false), (22, false), (23, false), (24, false), (25, false), (26, false), (27, false), (28, false), (29, false), (30, false), (31, false)] (by kernel_rfl) (by kernel_rfl) trivial ?_
          simp only [List.drop_succ_cons, List.drop_zero]
          iterate 32 (apply wpSch_step rfl; (intro W hS K hK; go_simp; exact hK _ rfl))
          refine wpSch_nil ?_
          have HBE : Hid (Below w2.heap.size w2 wr.drew) := HBB.out.drew
          by_cases hg0 : 0 < gw
          · have dg : decide (0 < gw) = true := decide_eq_true hg0
            have HSN : Hid (SJ l now (j + 1) = [(zk, gw)]) := by
              show _ = _
              rw [HSJ.out, HIT.out, if_pos hg0]
              exact HSN0.out
            clear hg0
            have HP0A : Hid (∀ W, Below w2.heap.size w2 W → W.cell? ⟨b, 0, none⟩ = some (.slice (some ⟨g, 0, none⟩) l.length c) ∧ W.cell? ⟨g, j * 3, none⟩ = some (.string zk)) := fun W hW => ⟨(hW.cell (p := ⟨b, 0, none⟩) (lt_of_cell HPA.out)).trans HPA.out, (hW.cell (p := ⟨g, j * 3, none⟩) (lt_of_cell HPB.out)).trans HPB.out⟩
            obtain ⟨z0, z1⟩ := HP0A.out _ HBE.out
            generalize wr.drew = W1 at *
            have HBX : Hid (∀ o, Below w2.heap.size w2 (W1.alloc o)) := fun o => HBE.out.alloc HBE.out.size o
            go_wp2_with (at_builtin; refine wp_keys_part _ rfl _ _ rfl w2.heap.size (.slice none 0 0) (.slice none 0 0) [] [] rfl (Ks.nil _ _) rfl (.inl ⟨rfl, rfl⟩) (by simp) HBE.out.size ?_)
            intro v1 W2 hk hg
            have HB1 : Hid (Below w2.heap.size w2 W2) := HBE.out.grown hg HBE.out.size (fun k hk => by cases hk)
            have HK1 : Hid (Ks W2 w2.heap.size v1 []) := hk
            clear hk hg z0 z1 HBX
            obtain ⟨z0, z1⟩ := HP0A.out W2 HB1.out
            have HBX : Hid (∀ o, Below w2.heap.size w2 (W2.alloc o)) := fun o => HB1.out.alloc HB1.out.size o
            go_wp2_with (at_builtin; refine wp_keys_part _ rfl _ _ rfl w2.heap.size v1 (.slice (some ⟨W2.heap.size, 0, none⟩) 1 1) [] [zk] rfl (HK1.out.alloc _) rfl (part_one W2 _ _) (by simp) (HBX.out _).size ?_)
            intro v2 W3 hk hg
            have HB2' : Hid (Below w2.heap.size w2 W3) := (HBX.out _).grown hg (HBX.out _).size (fun k hk => HK1.out.own_block k hk)
            have HK2 : Hid (Ks W3 w2.heap.size v2 [zk]) := hk
            clear hk hg z0 z1 HBX HK1 HB1
            go_wp2_with (at_builtin; refine wp_keys_part _ rfl _ _ rfl w2.heap.size v2 (.slice none 0 0) [zk] [] rfl HK2.out rfl (.inl ⟨rfl, rfl⟩) (by simp) HB2'.out.size ?_)
            intro v3 W4 hk hg
            have HB3 : Hid (Below w2.heap.size w2 W4) := HB2'.out.grown hg HB2'.out.size (fun k hk => HK2.out.own_block k hk)
            have HK3 : Hid (Ks W4 w2.heap.size v3 [zk]) := hk
            clear hk hg HK2 HB2'
            go_wp2_with (at_builtin; refine wp_ints_part _ rfl _ _ rfl w2.heap.size (.slice none 0 0) (.slice none 0 0) [] [] rfl (Is.nil _ _) rfl (.inl ⟨rfl, rfl⟩) (by simp) HB3.out.size ?_)
            intro v4 W5 hk hg
            have HB4 : Hid (Below w2.heap.size w2 W5) := HB3.out.grown hg HB3.out.size (fun k hk => by cases hk)
            have HK4 : Hid (Ks W5 w2.heap.size v3 [zk]) := HK3.out.chg (S := []) (Chg.grown hg (fun k hk => by cases hk)) (by simp)
            have HI4 : Hid (Is W5 w2.heap.size v4 []) := hk
            clear hk hg HK3 HB3
            have HBX : Hid (∀ o, Below w2.heap.size w2 (W5.alloc o)) := fun o => HB4.out.alloc HB4.out.size o
            go_wp2_with (at_builtin; refine wp_ints_part _ rfl _ _ rfl w2.heap.size v4 (.slice (some ⟨W5.heap.size, 0, none⟩) 1 1) [] [gw] rfl (HI4.out.alloc _) rfl (part_one W5 _ _) (by simp) (HBX.out _).size ?_)
            intro v5 W6 hk hg
            have HB5 : Hid (Below w2.heap.size w2 W6) := (HBX.out _).grown hg (HBX.out _).size (fun k hk => HI4.out.own_block k hk)
            have HK5 : Hid (Ks W6 w2.heap.size v3 [zk]) := Ks.apart (HK4.out.alloc _) (HI4.out.alloc _) hg
            have HI5 : Hid (Is W6 w2.heap.size v5 [gw]) := hk
            clear hk hg HK4 HB4 HBX HI4
            go_wp2_with (at_builtin; refine wp_ints_part _ rfl _ _ rfl w2.heap.size v5 (.slice none 0 0) [gw] [] rfl HI5.out rfl (.inl ⟨rfl, rfl⟩) (by simp) HB5.out.size ?_)
            intro v6 W7 hk hg
            have HB6 : Hid (Below w2.heap.size w2 W7) := HB5.out.grown hg HB5.out.size (fun k hk => HI5.out.own_block k hk)
            have HK6 : Hid (Ks W7 w.heap.size v3 [zk]) := (Ks.apart HK5.out HI5.out hg).low HB2.out.size
            have HI6 : Hid (Is W7 w.heap.size v6 [gw]) := is_low hk HB2.out.size
            clear hk hg HK5 HB5 HI5
            go_wp2
            go_roundw
            case rel => exact ⟨_, _, j + 1, by omega, rfl, rfl, by go_num, by rw [HSN.out]; exact HK6.out, by rw [HSN.out]; exact HI6.out, fun e => (by rw [HSN.out] at e; simp at e), HB2.out.trans (HB6.out.mono HB2.out.size)⟩
            case measure => simp [intOf]; omega
          · have dg : decide (0 < gw) = false := decide_eq_false hg0
            have HSN : Hid (SJ l now (j + 1) = []) := by
              show _ = _
              rw [HSJ.out, HIT.out, if_neg hg0]
            clear hg0
            go_wp2
            go_roundw
            case rel => exact ⟨_, _, j + 1, by omega, rfl, rfl, by go_num, by rw [HSN.out]; exact Ks.nil _ _, by rw [HSN.out]; exact Is.nil _ _, fun _ => ⟨rfl, rfl⟩, HB2.out.trans (HBE.out.mono HB2.out.size)⟩
            case measure => simp [intOf]; omega
      · obtain ⟨kg, hxa, hkg, HXC⟩ : ∃ kg, xa = some ⟨kg, 0, none⟩ ∧ kg < w2.heap.size ∧ Hid (S.length ≤ xc) := by
          rcases HX2.out.form with ⟨_, hS0⟩ | ⟨kg, kcap, hxf, -, hkg, hkc, -⟩
          · exact absurd (List.map_eq_nil_iff.1 hS0) hS
          · simp only [Value.slice.injEq] at hxf
            rw [List.length_map] at hkc
            exact ⟨kg, hxf.1, hkg, by obtain ⟨_, _, rfl⟩ := hxf; exact hkc⟩
        obtain ⟨wg, hya, hwg, HYC⟩ : ∃ wg, ya = some ⟨wg, 0, none⟩ ∧ wg < w2.heap.size ∧ Hid (S.length ≤ yc) := by
          rcases HY2.out.form with ⟨_, hS0⟩ | ⟨wg, wcap, hyf, -, hwg, hyc, -⟩
          · exact absurd (List.map_eq_nil_iff.1 hS0) hS
          · simp only [Value.slice.injEq] at hyf
            rw [List.length_map] at hyc
            exact ⟨wg, hyf.1, hwg, by obtain ⟨_, _, rfl⟩ := hyf; exact hyc⟩
        subst hxa hya
        have HSE : Hid (S ≠ []) := hS
        clear HZ hS
        go_loopw [11] (fun p wr => ∃ q : Nat, q ≤ S.length ∧ p = .int .i64 q ∧ Hid (∀ y ∈ S.drop q, hotter (zk, gw) y = true) ∧ Hid (Below w2.heap.size w2 wr)) (fun p _ => (intOf p).toNat)
        case atStart => exact ⟨S.length, Nat.le_refl _, rfl, fun y h => by simp at h, Below.refl _ _⟩
        case round =>
          rename_i hkl2
          obtain ⟨q, hq, rfl, HD, HBB⟩ := hrel
          have HP0 : Hid (wr.drew.cell? ⟨b, 0, none⟩ = some (.slice (some ⟨g, 0, none⟩) l.length c)) := (HBB.out.cell (p := ⟨b, 0, none⟩) (lt_of_cell HP0.out)).trans HP0.out
          have HP1 : Hid (wr.drew.cell? ⟨g, j * 3, none⟩ = some (.string zk)) := (HBB.out.cell (p := ⟨g, j * 3, none⟩) (lt_of_cell HP1.out)).trans HP1.out
          by_cases hq0 : q = 0
          · subst hq0
            go_wp2_with fail
            refine wp_region_sched (fun _ => True) 32 [(0, false), (1, false), (2, false), (3, false), (4, false), (5, false), (6, false), (7, false), (8, false), (9, false), (10, false), (11, false), (12, false), (13, false), (14, false), (15, false), (16, false), (17, false), (18, false), (19, false), (20, false), (21, false), (22, false), (23, false), (24, false), (25, false), (26, false), (27, false), (28, false), (29, false), (30, false), (31, false)] (by kernel_rfl) (by kernel_rfl) trivial ?_
            simp only [List.drop_succ_cons, List.drop_zero]
            iterate 32 (apply wpSch_step rfl; (intro W hS K hK; go_simp; exact hK _ rfl))
            refine wpSch_nil ?_
            have HA : Hid (0 = 0 ∨ ∃ h : 0 - 1 < S.length, hotter (zk, gw) S[0 - 1] = false) := .inl rfl
            have HBE : Hid (Below w2.heap.size w2 wr.drew) := HBB.out.drew
            have HINS : Hid (insI (zk, gw) S = S.take 0 ++ (zk, gw) :: S.drop 0) := ins_at HSO.out (zk, gw) 0 hq HD.out HA.out
            by_cases hg0 : 0 < gw
            · have dg : decide (0 < gw) = true := decide_eq_true hg0
              have HSN : Hid (SJ l now (j + 1) = S.take 0 ++ (zk, gw) :: S.drop 0) := by
                show _ = _
                rw [HSJ.out, HIT.out, if_pos hg0]
                exact HINS.out
              clear hg0
              have HQX : 0 ≤ xc ∧ 0 ≤ yc := by have := HXC.out; have := HYC.out; exact ⟨by omega, by omega⟩
              rcases Nat.lt_or_ge 0 xc with e1 | e1
              · rcases Nat.lt_or_ge 0 yc with e2 | e2
                · skip
                  have f1 : ¬ xc - 0 = 0 := by omega
                  have f3 : ¬ xc ≤ 0 := by omega
                  have f2 : ¬ yc - 0 = 0 := by omega
                  have f4 : ¬ yc ≤ 0 := by omega
                  have s0 : (0 : Int) ≤ ((0 : Nat) : Int) := by omega
                  have s1 : ((0 : Nat) : Int) ≤ (xc : Int) := by have := HXC.out; omega
                  have s2 : ((0 : Nat) : Int) ≤ (S.length : Int) := by omega
                  have s3 : (S.length : Int) ≤ (xc : Int) := by have := HXC.out; omega
                  have s4 : ((0 : Nat) : Int) ≤ (yc : Int) := by have := HYC.out; omega
                  have s5 : (S.length : Int) ≤ (yc : Int) := by have := HYC.out; omega
                  have HS9 : Hid (S.length ≤ 20000) := by show _ ≤ _; have := HSL.out; omega
                  obtain ⟨W0, hW0⟩ : ∃ W, W = wr.drew := ⟨_, rfl⟩
                  rw [← hW0] at HBE HP0 HP1
                  have HKT : Hid (∀ W, Below w2.heap.size w2 W → PartV W (.slice (some ⟨kg, 0, none⟩) 0 xc) (((S.map (·.1)).take 0).map Value.string)) := fun W hW => part_front (f := Value.string) (l := S.map (·.1)) (fun i x hx => (HX2.out.keep hW).cells hx) (by rw [List.length_map]; exact hq)
                  have HKD : Hid (∀ W, Below w2.heap.size w2 W → PartV W (.slice (some ⟨kg, 0, none⟩) (S.length - 0) (xc - 0)) (((S.map (·.1)).drop 0).map Value.string)) := fun W hW => part_back (f := Value.string) (l := S.map (·.1)) (fun i x hx => (HX2.out.keep hW).cells hx) (by rw [List.length_map])
                  have HWT : Hid (∀ W, Below w2.heap.size w2 W → PartV W (.slice (some ⟨wg, 0, none⟩) 0 yc) (((S.map (·.2)).take 0).map (Value.int .i64))) := fun W hW => part_front (f := Value.int .i64) (l := S.map (·.2)) (fun i x hx => (HY2.out.keep hW).cells hx) (by rw [List.length_map]; exact hq)
                  have HWD : Hid (∀ W, Below w2.heap.size w2 W → PartV W (.slice (some ⟨wg, 0, none⟩) (S.length - 0) (yc - 0)) (((S.map (·.2)).drop 0).map (Value.int .i64))) := fun W hW => part_back (f := Value.int .i64) (l := S.map (·.2)) (fun i x hx => (HY2.out.keep hW).cells hx) (by rw [List.length_map])
                  have HL1 : Hid (((S.map (·.1)).take 0).length ≤ 20000 ∧ ((S.map (·.1)).drop 0).length ≤ 20000 ∧ ((S.map (·.2)).take 0).length ≤ 20000 ∧ ((S.map (·.2)).drop 0).length ≤ 20000) := by
                    have := HS9.out
                    refine ⟨?_, ?_, ?_, ?_⟩ <;> simp only [List.length_take, List.length_drop, List.length_map] <;> omega
                  have HP0A : Hid (∀ W, Below w2.heap.size w2 W → W.cell? ⟨b, 0, none⟩ = some (.slice (some ⟨g, 0, none⟩) l.length c) ∧ W.cell? ⟨g, j * 3, none⟩ = some (.string zk)) := fun W hW => ⟨(hW.cell (p := ⟨b, 0, none⟩) (lt_of_cell HPA.out)).trans HPA.out, (hW.cell (p := ⟨g, j * 3, none⟩) (lt_of_cell HPB.out)).trans HPB.out⟩
                  rw [← hW0]
                  clear hW0
                  have HM1 : Hid ((S.take 0 ++ (zk, gw) :: S.drop 0).map (·.1) = (S.map (·.1)).take 0 ++ zk :: (S.map (·.1)).drop 0) := by show _ = _; rw [List.map_append, List.map_cons, List.map_take, List.map_drop]
                  have HM2 : Hid ((S.take 0 ++ (zk, gw) :: S.drop 0).map (·.2) = (S.map (·.2)).take 0 ++ gw :: (S.map (·.2)).drop 0) := by show _ = _; rw [List.map_append, List.map_cons, List.map_take, List.map_drop]
                  generalize ((S.map (·.1)).take 0) = KT at *
                  generalize ((S.map (·.1)).drop 0) = KD at *
                  generalize ((S.map (·.2)).take 0) = NT at *
                  generalize ((S.map (·.2)).drop 0) = ND at *
                  go_wp2_with (at_builtin; refine wp_keys_part _ rfl _ _ rfl w2.heap.size (.slice none 0 0) (.slice (some ⟨kg, 0, none⟩) 0 xc) [] KT rfl (Ks.nil _ _) rfl (HKT.out _ HBE.out) (by have := HL1.out; simp; omega) HBE.out.size ?_)
                  intro v1 W1 hk hg
                  have HB1 : Hid (Below w2.heap.size w2 W1) := HBE.out.grown hg HBE.out.size (fun k hk => by cases hk)
                  have HK1 : Hid (Ks W1 w2.heap.size v1 KT) := hk
                  clear hk hg
                  obtain ⟨z0, z1⟩ := HP0A.out W1 HB1.out
                  have HBX : Hid (∀ o, Below w2.heap.size w2 (W1.alloc o)) := fun o => HB1.out.alloc HB1.out.size o
                  have HKX : Hid (∀ o, Ks (W1.alloc o) w2.heap.size v1 KT) := fun o => HK1.out.alloc o
                  go_wp2_with (at_builtin; refine wp_keys_push _ rfl _ _ rfl w2.heap.size v1 KT rfl (HKX.out _) ⟨W1.heap.size, 0, none⟩ 1 1 [zk] rfl rfl ?c1 (by have := HL1.out; omega) (HBX.out _).size ?_)
                  case c1 =>
                    intro i u hu
                    match i, hu with
                    | 0, hu =>
                      simp only [List.getElem?_cons_zero, Option.some.injEq] at hu
                      subst hu
                      exact boxed0 _ _ _ _ 0 _ rfl
                  intro v2 W2 hk hg _
                  have HB2' : Hid (Below w2.heap.size w2 W2) := (HBX.out _).grown hg (HBX.out _).size (fun k hk => HK1.out.own_block k hk)
                  have HK2 : Hid (Ks W2 w2.heap.size v2 (KT ++ [zk])) := hk
                  clear hk hg z0 z1 HBX HKX HK1 HB1
                  go_wp2_with (at_builtin; refine wp_keys_part _ rfl _ _ rfl w2.heap.size v2 (.slice (some ⟨kg, 0, none⟩) (S.length - 0) (xc - 0)) (KT ++ [zk]) KD rfl HK2.out rfl (HKD.out _ HB2'.out) (by have := HL1.out; simp; omega) HB2'.out.size ?_)
                  intro v3 W3 hk hg
                  have HB3 : Hid (Below w2.heap.size w2 W3) := HB2'.out.grown hg HB2'.out.size (fun k hk => HK2.out.own_block k hk)
                  have HK3 : Hid (Ks W3 w2.heap.size v3 (KT ++ zk :: KD)) := hk
                  clear hk hg HK2 HB2'
                  go_wp2_with (at_builtin; refine wp_ints_part _ rfl _ _ rfl w2.heap.size (.slice none 0 0) (.slice (some ⟨wg, 0, none⟩) 0 yc) [] NT rfl (Is.nil _ _) rfl (HWT.out _ HB3.out) (by have := HL1.out; simp; omega) HB3.out.size ?_)
                  intro v4 W4 hk hg
                  have HB4 : Hid (Below w2.heap.size w2 W4) := HB3.out.grown hg HB3.out.size (fun k hk => by cases hk)
                  have HK4 : Hid (Ks W4 w2.heap.size v3 (KT ++ zk :: KD)) := HK3.out.chg (S := []) (Chg.grown hg (fun k hk => by cases hk)) (by simp)
                  have HI4 : Hid (Is W4 w2.heap.size v4 NT) := hk
                  clear hk hg HK3 HB3
                  have HBX : Hid (∀ o, Below w2.heap.size w2 (W4.alloc o)) := fun o => HB4.out.alloc HB4.out.size o
                  go_wp2_with (at_builtin; refine wp_ints_part _ rfl _ _ rfl w2.heap.size v4 (.slice (some ⟨W4.heap.size, 0, none⟩) 1 1) NT [gw] rfl (HI4.out.alloc _) rfl (part_one W4 _ _) (by have := HL1.out; simp; omega) (HBX.out _).size ?_)
                  intro v5 W5 hk hg
                  have HB5 : Hid (Below w2.heap.size w2 W5) := (HBX.out _).grown hg (HBX.out _).size (fun k hk => HI4.out.own_block k hk)
                  have HK5 : Hid (Ks W5 w2.heap.size v3 (KT ++ zk :: KD)) := Ks.apart (HK4.out.alloc _) (HI4.out.alloc _) hg
                  have HI5 : Hid (Is W5 w2.heap.size v5 (NT ++ [gw])) := hk
                  clear hk hg HK4 HB4 HBX HI4
                  go_wp2_with (at_builtin; refine wp_ints_part _ rfl _ _ rfl w2.heap.size v5 (.slice (some ⟨wg, 0, none⟩) (S.length - 0) (yc - 0)) (NT ++ [gw]) ND rfl HI5.out rfl (HWD.out _ HB5.out) (by have := HL1.out; simp; omega) HB5.out.size ?_)
                  intro v6 W6 hk hg
                  have HB6 : Hid (Below w2.heap.size w2 W6) := HB5.out.grown hg HB5.out.size (fun k hk => HI5.out.own_block k hk)
                  have HK6 : Hid (Ks W6 w.heap.size v3 (KT ++ zk :: KD)) := (Ks.apart HK5.out HI5.out hg).low HB2.out.size
                  have HI6 : Hid (Is W6 w.heap.size v6 (NT ++ gw :: ND)) := is_low hk HB2.out.size
                  clear hk hg HK5 HB5 HI5
                  go_wp2
                  go_roundw
                  case rel => exact ⟨_, _, j + 1, by omega, rfl, rfl, by go_num, by rw [HSN.out, HM1.out]; exact HK6.out, by rw [HSN.out, HM2.out]; exact HI6.out, fun e => (by rw [HSN.out] at e; simp at e), HB2.out.trans (HB6.out.mono HB2.out.size)⟩
                  case measure => simp [intOf]; omega
                · skip
                  have f1 : ¬ xc - 0 = 0 := by omega
                  have f3 : ¬ xc ≤ 0 := by omega
                  obtain rfl : 0 = yc := by omega
                  have s0 : (0 : Int) ≤ ((0 : Nat) : Int) := by omega
                  have s1 : ((0 : Nat) : Int) ≤ (xc : Int) := by have := HXC.out; omega
                  have s2 : ((0 : Nat) : Int) ≤ (S.length : Int) := by omega
                  have s3 : (S.length : Int) ≤ (xc : Int) := by have := HXC.out; omega
                  have s4 : ((0 : Nat) : Int) ≤ ((0 : Nat) : Int) := by have := HYC.out; omega
                  have s5 : (S.length : Int) ≤ ((0 : Nat) : Int) := by have := HYC.out; omega
                  have HS9 : Hid (S.length ≤ 20000) := by show _ ≤ _; have := HSL.out; omega
                  obtain ⟨W0, hW0⟩ : ∃ W, W = wr.drew := ⟨_, rfl⟩
                  rw [← hW0] at HBE HP0 HP1
                  have HKT : Hid (∀ W, Below w2.heap.size w2 W → PartV W (.slice (some ⟨kg, 0, none⟩) 0 xc) (((S.map (·.1)).take 0).map Value.string)) := fun W hW => part_front (f := Value.string) (l := S.map (·.1)) (fun i x hx => (HX2.out.keep hW).cells hx) (by rw [List.length_map]; exact hq)
                  have HKD : Hid (∀ W, Below w2.heap.size w2 W → PartV W (.slice (some ⟨kg, 0, none⟩) (S.length - 0) (xc - 0)) (((S.map (·.1)).drop 0).map Value.string)) := fun W hW => part_back (f := Value.string) (l := S.map (·.1)) (fun i x hx => (HX2.out.keep hW).cells hx) (by rw [List.length_map])
                  have HWT : Hid (∀ W, Below w2.heap.size w2 W → PartV W (.slice (some ⟨wg, 0, none⟩) 0 0) (((S.map (·.2)).take 0).map (Value.int .i64))) := fun W hW => part_front (f := Value.int .i64) (l := S.map (·.2)) (fun i x hx => (HY2.out.keep hW).cells hx) (by rw [List.length_map]; exact hq)
                  have HWD : Hid (∀ W, Below w2.heap.size w2 W → PartV W (.slice (some ⟨wg, 0, none⟩) (S.length - 0) 0) (((S.map (·.2)).drop 0).map (Value.int .i64))) := fun W _ => part_none (by rw [List.length_map, List.length_drop, List.length_map]) (by have := HYC.out; omega)
                  have HL1 : Hid (((S.map (·.1)).take 0).length ≤ 20000 ∧ ((S.map (·.1)).drop 0).length ≤ 20000 ∧ ((S.map (·.2)).take 0).length ≤ 20000 ∧ ((S.map (·.2)).drop 0).length ≤ 20000) := by
                    have := HS9.out
                    refine ⟨?_, ?_, ?_, ?_⟩ <;> simp only [List.length_take, List.length_drop, List.length_map] <;> omega
                  have HP0A : Hid (∀ W, Below w2.heap.size w2 W → W.cell? ⟨b, 0, none⟩ = some (.slice (some ⟨g, 0, none⟩) l.length c) ∧ W.cell? ⟨g, j * 3, none⟩ = some (.string zk)) := fun W hW => ⟨(hW.cell (p := ⟨b, 0, none⟩) (lt_of_cell HPA.out)).trans HPA.out, (hW.cell (p := ⟨g, j * 3, none⟩) (lt_of_cell HPB.out)).trans HPB.out⟩
                  rw [← hW0]
                  clear hW0
                  have HM1 : Hid ((S.take 0 ++ (zk, gw) :: S.drop 0).map (·.1) = (S.map (·.1)).take 0 ++ zk :: (S.map (·.1)).drop 0) := by show _ = _; rw [List.map_append, List.map_cons, List.map_take, List.map_drop]
                  have HM2 : Hid ((S.take 0 ++ (zk, gw) :: S.drop 0).map (·.2) = (S.map (·.2)).take 0 ++ gw :: (S.map (·.2)).drop 0) := by show _ = _; rw [List.map_append, List.map_cons, List.map_take, List.map_drop]
                  generalize ((S.map (·.1)).take 0) = KT at *
                  generalize ((S.map (·.1)).drop 0) = KD at *
                  generalize ((S.map (·.2)).take 0) = NT at *
                  generalize ((S.map (·.2)).drop 0) = ND at *
                  go_wp2_with (at_builtin; refine wp_keys_part _ rfl _ _ rfl w2.heap.size (.slice none 0 0) (.slice (some ⟨kg, 0, none⟩) 0 xc) [] KT rfl (Ks.nil _ _) rfl (HKT.out _ HBE.out) (by have := HL1.out; simp; omega) HBE.out.size ?_)
                  intro v1 W1 hk hg
                  have HB1 : Hid (Below w2.heap.size w2 W1) := HBE.out.grown hg HBE.out.size (fun k hk => by cases hk)
                  have HK1 : Hid (Ks W1 w2.heap.size v1 KT) := hk
                  clear hk hg
                  obtain ⟨z0, z1⟩ := HP0A.out W1 HB1.out
                  have HBX : Hid (∀ o, Below w2.heap.size w2 (W1.alloc o)) := fun o => HB1.out.alloc HB1.out.size o
                  have HKX : Hid (∀ o, Ks (W1.alloc o) w2.heap.size v1 KT) := fun o => HK1.out.alloc o
                  go_wp2_with (at_builtin; refine wp_keys_push _ rfl _ _ rfl w2.heap.size v1 KT rfl (HKX.out _) ⟨W1.heap.size, 0, none⟩ 1 1 [zk] rfl rfl ?c1 (by have := HL1.out; omega) (HBX.out _).size ?_)
                  case c1 =>
                    intro i u hu
                    match i, hu with
                    | 0, hu =>
                      simp only [List.getElem?_cons_zero, Option.some.injEq] at hu
                      subst hu
                      exact boxed0 _ _ _ _ 0 _ rfl
                  intro v2 W2 hk hg _
                  have HB2' : Hid (Below w2.heap.size w2 W2) := (HBX.out _).grown hg (HBX.out _).size (fun k hk => HK1.out.own_block k hk)
                  have HK2 : Hid (Ks W2 w2.heap.size v2 (KT ++ [zk])) := hk
                  clear hk hg z0 z1 HBX HKX HK1 HB1
                  go_wp2_with (at_builtin; refine wp_keys_part _ rfl _ _ rfl w2.heap.size v2 (.slice (some ⟨kg, 0, none⟩) (S.length - 0) (xc - 0)) (KT ++ [zk]) KD rfl HK2.out rfl (HKD.out _ HB2'.out) (by have := HL1.out; simp; omega) HB2'.out.size ?_)
                  intro v3 W3 hk hg
                  have HB3 : Hid (Below w2.heap.size w2 W3) := HB2'.out.grown hg HB2'.out.size (fun k hk => HK2.out.own_block k hk)
                  have HK3 : Hid (Ks W3 w2.heap.size v3 (KT ++ zk :: KD)) := hk
                  clear hk hg HK2 HB2'
                  go_wp2_with (at_builtin; refine wp_ints_part _ rfl _ _ rfl w2.heap.size (.slice none 0 0) (.slice (some ⟨wg, 0, none⟩) 0 0) [] NT rfl (Is.nil _ _) rfl (HWT.out _ HB3.out) (by have := HL1.out; simp; omega) HB3.out.size ?_)
                  intro v4 W4 hk hg
                  have HB4 : Hid (Below w2.heap.size w2 W4) := HB3.out.grown hg HB3.out.size (fun k hk => by cases hk)
                  have HK4 : Hid (Ks W4 w2.heap.size v3 (KT ++ zk :: KD)) := HK3.out.chg (S := []) (Chg.grown hg (fun k hk => by cases hk)) (by simp)
                  have HI4 : Hid (Is W4 w2.heap.size v4 NT) := hk
                  clear hk hg HK3 HB3
                  have HBX : Hid (∀ o, Below w2.heap.size w2 (W4.alloc o)) := fun o => HB4.out.alloc HB4.out.size o
                  go_wp2_with (at_builtin; refine wp_ints_part _ rfl _ _ rfl w2.heap.size v4 (.slice (some ⟨W4.heap.size, 0, none⟩) 1 1) NT [gw] rfl (HI4.out.alloc _) rfl (part_one W4 _ _) (by have := HL1.out; simp; omega) (HBX.out _).size ?_)
                  intro v5 W5 hk hg
                  have HB5 : Hid (Below w2.heap.size w2 W5) := (HBX.out _).grown hg (HBX.out _).size (fun k hk => HI4.out.own_block k hk)
                  have HK5 : Hid (Ks W5 w2.heap.size v3 (KT ++ zk :: KD)) := Ks.apart (HK4.out.alloc _) (HI4.out.alloc _) hg
                  have HI5 : Hid (Is W5 w2.heap.size v5 (NT ++ [gw])) := hk
                  clear hk hg HK4 HB4 HBX HI4
                  go_wp2_with (at_builtin; refine wp_ints_part _ rfl _ _ rfl w2.heap.size v5 (.slice (some ⟨wg, 0, none⟩) (S.length - 0) 0) (NT ++ [gw]) ND rfl HI5.out rfl (HWD.out _ HB5.out) (by have := HL1.out; simp; omega) HB5.out.size ?_)
                  intro v6 W6 hk hg
                  have HB6 : Hid (Below w2.heap.size w2 W6) := HB5.out.grown hg HB5.out.size (fun k hk => HI5.out.own_block k hk)
                  have HK6 : Hid (Ks W6 w.heap.size v3 (KT ++ zk :: KD)) := (Ks.apart HK5.out HI5.out hg).low HB2.out.size
                  have HI6 : Hid (Is W6 w.heap.size v6 (NT ++ gw :: ND)) := is_low hk HB2.out.size
                  clear hk hg HK5 HB5 HI5
                  go_wp2
                  go_roundw
                  case rel => exact ⟨_, _, j + 1, by omega, rfl, rfl, by go_num, by rw [HSN.out, HM1.out]; exact HK6.out, by rw [HSN.out, HM2.out]; exact HI6.out, fun e => (by rw [HSN.out] at e; simp at e), HB2.out.trans (HB6.out.mono HB2.out.size)⟩
                  case measure => simp [intOf]; omega
              · rcases Nat.lt_or_ge 0 yc with e2 | e2
                · skip
                  obtain rfl : 0 = xc := by omega
                  have f2 : ¬ yc - 0 = 0 := by omega
                  have f4 : ¬ yc ≤ 0 := by omega
                  have s0 : (0 : Int) ≤ ((0 : Nat) : Int) := by omega
                  have s1 : ((0 : Nat) : Int) ≤ ((0 : Nat) : Int) := by have := HXC.out; omega
                  have s2 : ((0 : Nat) : Int) ≤ (S.length : Int) := by omega
                  have s3 : (S.length : Int) ≤ ((0 : Nat) : Int) := by have := HXC.out; omega
                  have s4 : ((0 : Nat) : Int) ≤ (yc : Int) := by have := HYC.out; omega
                  have s5 : (S.length : Int) ≤ (yc : Int) := by have := HYC.out; omega
                  have HS9 : Hid (S.length ≤ 20000) := by show _ ≤ _; have := HSL.out; omega
                  obtain ⟨W0, hW0⟩ : ∃ W, W = wr.drew := ⟨_, rfl⟩
                  rw [← hW0] at HBE HP0 HP1
                  have HKT : Hid (∀ W, Below w2.heap.size w2 W → PartV W (.slice (some ⟨kg, 0, none⟩) 0 0) (((S.map (·.1)).take 0).map Value.string)) := fun W hW => part_front (f := Value.string) (l := S.map (·.1)) (fun i x hx => (HX2.out.keep hW).cells hx) (by rw [List.length_map]; exact hq)
                  have HKD : Hid (∀ W, Below w2.heap.size w2 W → PartV W (.slice (some ⟨kg, 0, none⟩) (S.length - 0) 0) (((S.map (·.1)).drop 0).map Value.string)) := fun W _ => part_none (by rw [List.length_map, List.length_drop, List.length_map]) (by have := HXC.out; omega)
                  have HWT : Hid (∀ W, Below w2.heap.size w2 W → PartV W (.slice (some ⟨wg, 0, none⟩) 0 yc) (((S.map (·.2)).take 0).map (Value.int .i64))) := fun W hW => part_front (f := Value.int .i64) (l := S.map (·.2)) (fun i x hx => (HY2.out.keep hW).cells hx) (by rw [List.length_map]; exact hq)
                  have HWD : Hid (∀ W, Below w2.heap.size w2 W → PartV W (.slice (some ⟨wg, 0, none⟩) (S.length - 0) (yc - 0)) (((S.map (·.2)).drop 0).map (Value.int .i64))) := fun W hW => part_back (f := Value.int .i64) (l := S.map (·.2)) (fun i x hx => (HY2.out.keep hW).cells hx) (by rw [List.length_map])
                  have HL1 : Hid (((S.map (·.1)).take 0).length ≤ 20000 ∧ ((S.map (·.1)).drop 0).length ≤ 20000 ∧ ((S.map (·.2)).take 0).length ≤ 20000 ∧ ((S.map (·.2)).drop 0).length ≤ 20000) := by
                    have := HS9.out
                    refine ⟨?_, ?_, ?_, ?_⟩ <;> simp only [List.length_take, List.length_drop, List.length_map] <;> omega
                  have HP0A : Hid (∀ W, Below w2.heap.size w2 W → W.cell? ⟨b, 0, none⟩ = some (.slice (some ⟨g, 0, none⟩) l.length c) ∧ W.cell? ⟨g, j * 3, none⟩ = some (.string zk)) := fun W hW => ⟨(hW.cell (p := ⟨b, 0, none⟩) (lt_of_cell HPA.out)).trans HPA.out, (hW.cell (p := ⟨g, j * 3, none⟩) (lt_of_cell HPB.out)).trans HPB.out⟩
                  rw [← hW0]
                  clear hW0
                  have HM1 : Hid ((S.take 0 ++ (zk, gw) :: S.drop 0).map (·.1) = (S.map (·.1)).take 0 ++ zk :: (S.map (·.1)).drop 0) := by show _ = _; rw [List.map_append, List.map_cons, List.map_take, List.map_drop]
                  have HM2 : Hid ((S.take 0 ++ (zk, gw) :: S.drop 0).map (·.2) = (S.map (·.2)).take 0 ++ gw :: (S.map (·.2)).drop 0) := by show _ = _; rw [List.map_append, List.map_cons, List.map_take, List.map_drop]
                  generalize ((S.map (·.1)).take 0) = KT at *
                  generalize ((S.map (·.1)).drop 0) = KD at *
                  generalize ((S.map (·.2)).take 0) = NT at *
                  generalize ((S.map (·.2)).drop 0) = ND at *
                  go_wp2_with (at_builtin; refine wp_keys_part _ rfl _ _ rfl w2.heap.size (.slice none 0 0) (.slice (some ⟨kg, 0, none⟩) 0 0) [] KT rfl (Ks.nil _ _) rfl (HKT.out _ HBE.out) (by have := HL1.out; simp; omega) HBE.out.size ?_)
                  intro v1 W1 hk hg
                  have HB1 : Hid (Below w2.heap.size w2 W1) := HBE.out.grown hg HBE.out.size (fun k hk => by cases hk)
                  have HK1 : Hid (Ks W1 w2.heap.size v1 KT) := hk
                  clear hk hg
                  obtain ⟨z0, z1⟩ := HP0A.out W1 HB1.out
                  have HBX : Hid (∀ o, Below w2.heap.size w2 (W1.alloc o)) := fun o => HB1.out.alloc HB1.out.size o
                  have HKX : Hid (∀ o, Ks (W1.alloc o) w2.heap.size v1 KT) := fun o => HK1.out.alloc o
                  go_wp2_with (at_builtin; refine wp_keys_push _ rfl _ _ rfl w2.heap.size v1 KT rfl (HKX.out _) ⟨W1.heap.size, 0, none⟩ 1 1 [zk] rfl rfl ?c1 (by have := HL1.out; omega) (HBX.out _).size ?_)
                  case c1 =>
                    intro i u hu
                    match i, hu with
                    | 0, hu =>
                      simp only [List.getElem?_cons_zero, Option.some.injEq] at hu
                      subst hu
                      exact boxed0 _ _ _ _ 0 _ rfl
                  intro v2 W2 hk hg _
                  have HB2' : Hid (Below w2.heap.size w2 W2) := (HBX.out _).grown hg (HBX.out _).size (fun k hk => HK1.out.own_block k hk)
                  have HK2 : Hid (Ks W2 w2.heap.size v2 (KT ++ [zk])) := hk
                  clear hk hg z0 z1 HBX HKX HK1 HB1
                  go_wp2_with (at_builtin; refine wp_keys_part _ rfl _ _ rfl w2.heap.size v2 (.slice (some ⟨kg, 0, none⟩) (S.length - 0) 0) (KT ++ [zk]) KD rfl HK2.out rfl (HKD.out _ HB2'.out) (by have := HL1.out; simp; omega) HB2'.out.size ?_)
                  intro v3 W3 hk hg
                  have HB3 : Hid (Below w2.heap.size w2 W3) := HB2'.out.grown hg HB2'.out.size (fun k hk => HK2.out.own_block k hk)
                  have HK3 : Hid (Ks W3 w2.heap.size v3 (KT ++ zk :: KD)) := hk
                  clear hk hg HK2 HB2'
                  go_wp2_with (at_builtin; refine wp_ints_part _ rfl _ _ rfl w2.heap.size (.slice none 0 0) (.slice (some ⟨wg, 0, none⟩) 0 yc) [] NT rfl (Is.nil _ _) rfl (HWT.out _ HB3.out) (by have := HL1.out; simp; omega) HB3.out.size ?_)
                  intro v4 W4 hk hg
                  have HB4 : Hid (Below w2.heap.size w2 W4) := HB3.out.grown hg HB3.out.size (fun k hk => by cases hk)
                  have HK4 : Hid (Ks W4 w2.heap.size v3 (KT ++ zk :: KD)) := HK3.out.chg (S := []) (Chg.grown hg (fun k hk => by cases hk)) (by simp)
                  have HI4 : Hid (Is W4 w2.heap.size v4 NT) := hk
                  clear hk hg HK3 HB3
                  have HBX : Hid (∀ o, Below w2.heap.size w2 (W4.alloc o)) := fun o => HB4.out.alloc HB4.out.size o
                  go_wp2_with (at_builtin; refine wp_ints_part _ rfl _ _ rfl w2.heap.size v4 (.slice (some ⟨W4.heap.size, 0, none⟩) 1 1) NT [gw] rfl (HI4.out.alloc _) rfl (part_one W4 _ _) (by have := HL1.out; simp; omega) (HBX.out _).size ?_)
                  intro v5 W5 hk hg
                  have HB5 : Hid (Below w2.heap.size w2 W5) := (HBX.out _).grown hg (HBX.out _).size (fun k hk => HI4.out.own_block k hk)
                  have HK5 : Hid (Ks W5 w2.heap.size v3 (KT ++ zk :: KD)) := Ks.apart (HK4.out.alloc _) (HI4.out.alloc _) hg
                  have HI5 : Hid (Is W5 w2.heap.size v5 (NT ++ [gw])) := hk
                  clear hk hg HK4 HB4 HBX HI4
                  go_wp2_with (at_builtin; refine wp_ints_part _ rfl _ _ rfl w2.heap.size v5 (.slice (some ⟨wg, 0, none⟩) (S.length - 0) (yc - 0)) (NT ++ [gw]) ND rfl HI5.out rfl (HWD.out _ HB5.out) (by have := HL1.out; simp; omega) HB5.out.size ?_)
                  intro v6 W6 hk hg
                  have HB6 : Hid (Below w2.heap.size w2 W6) := HB5.out.grown hg HB5.out.size (fun k hk => HI5.out.own_block k hk)
                  have HK6 : Hid (Ks W6 w.heap.size v3 (KT ++ zk :: KD)) := (Ks.apart HK5.out HI5.out hg).low HB2.out.size
                  have HI6 : Hid (Is W6 w.heap.size v6 (NT ++ gw :: ND)) := is_low hk HB2.out.size
                  clear hk hg HK5 HB5 HI5
                  go_wp2
                  go_roundw
                  case rel => exact ⟨_, _, j + 1, by omega, rfl, rfl, by go_num, by rw [HSN.out, HM1.out]; exact HK6.out, by rw [HSN.out, HM2.out]; exact HI6.out, fun e => (by rw [HSN.out] at e; simp at e), HB2.out.trans (HB6.out.mono HB2.out.size)⟩
                  case measure => simp [intOf]; omega
                · skip
                  obtain rfl : 0 = xc := by omega
                  obtain rfl : 0 = yc := by omega
                  have s0 : (0 : Int) ≤ ((0 : Nat) : Int) := by omega
                  have s1 : ((0 : Nat) : Int) ≤ ((0 : Nat) : Int) := by have := HXC.out; omega
                  have s2 : ((0 : Nat) : Int) ≤ (S.length : Int) := by omega
                  have s3 : (S.length : Int) ≤ ((0 : Nat) : Int) := by have := HXC.out; omega
                  have s4 : ((0 : Nat) : Int) ≤ ((0 : Nat) : Int) := by have := HYC.out; omega
                  have s5 : (S.length : Int) ≤ ((0 : Nat) : Int) := by have := HYC.out; omega
                  have HS9 : Hid (S.length ≤ 20000) := by show _ ≤ _; have := HSL.out; omega
                  obtain ⟨W0, hW0⟩ : ∃ W, W = wr.drew := ⟨_, rfl⟩
                  rw [← hW0] at HBE HP0 HP1
                  have HKT : Hid (∀ W, Below w2.heap.size w2 W → PartV W (.slice (some ⟨kg, 0, none⟩) 0 0) (((S.map (·.1)).take 0).map Value.string)) := fun W hW => part_front (f := Value.string) (l := S.map (·.1)) (fun i x hx => (HX2.out.keep hW).cells hx) (by rw [List.length_map]; exact hq)
                  have HKD : Hid (∀ W, Below w2.heap.size w2 W → PartV W (.slice (some ⟨kg, 0, none⟩) (S.length - 0) 0) (((S.map (·.1)).drop 0).map Value.string)) := fun W _ => part_none (by rw [List.length_map, List.length_drop, List.length_map]) (by have := HXC.out; omega)
                  have HWT : Hid (∀ W, Below w2.heap.size w2 W → PartV W (.slice (some ⟨wg, 0, none⟩) 0 0) (((S.map (·.2)).take 0).map (Value.int .i64))) := fun W hW => part_front (f := Value.int .i64) (l := S.map (·.2)) (fun i x hx => (HY2.out.keep hW).cells hx) (by rw [List.length_map]; exact hq)
                  have HWD : Hid (∀ W, Below w2.heap.size w2 W → PartV W (.slice (some ⟨wg, 0, none⟩) (S.length - 0) 0) (((S.map (·.2)).drop 0).map (Value.int .i64))) := fun W _ => part_none (by rw [List.length_map, List.length_drop, List.length_map]) (by have := HYC.out; omega)
                  have HL1 : Hid (((S.map (·.1)).take 0).length ≤ 20000 ∧ ((S.map (·.1)).drop 0).length ≤ 20000 ∧ ((S.map (·.2)).take 0).length ≤ 20000 ∧ ((S.map (·.2)).drop 0).length ≤ 20000) := by
                    have := HS9.out
                    refine ⟨?_, ?_, ?_, ?_⟩ <;> simp only [List.length_take, List.length_drop, List.length_map] <;> omega
                  have HP0A : Hid (∀ W, Below w2.heap.size w2 W → W.cell? ⟨b, 0, none⟩ = some (.slice (some ⟨g, 0, none⟩) l.length c) ∧ W.cell? ⟨g, j * 3, none⟩ = some (.string zk)) := fun W hW => ⟨(hW.cell (p := ⟨b, 0, none⟩) (lt_of_cell HPA.out)).trans HPA.out, (hW.cell (p := ⟨g, j * 3, none⟩) (lt_of_cell HPB.out)).trans HPB.out⟩
                  rw [← hW0]
                  clear hW0
                  have HM1 : Hid ((S.take 0 ++ (zk, gw) :: S.drop 0).map (·.1) = (S.map (·.1)).take 0 ++ zk :: (S.map (·.1)).drop 0) := by show _ = _; rw [List.map_append, List.map_cons, List.map_take, List.map_drop]
                  have HM2 : Hid ((S.take 0 ++ (zk, gw) :: S.drop 0).map (·.2) = (S.map (·.2)).take 0 ++ gw :: (S.map (·.2)).drop 0) := by show _ = _; rw [List.map_append, List.map_cons, List.map_take, List.map_drop]
                  generalize ((S.map (·.1)).take 0) = KT at *
                  generalize ((S.map (·.1)).drop 0) = KD at *
                  generalize ((S.map (·.2)).take 0) = NT at *
                  generalize ((S.map (·.2)).drop 0) = ND at *
                  go_wp2_with (at_builtin; refine wp_keys_part _ rfl _ _ rfl w2.heap.size (.slice none 0 0) (.slice (some ⟨kg, 0, none⟩) 0 0) [] KT rfl (Ks.nil _ _) rfl (HKT.out _ HBE.out) (by have := HL1.out; simp; omega) HBE.out.size ?_)
                  intro v1 W1 hk hg
                  have HB1 : Hid (Below w2.heap.size w2 W1) := HBE.out.grown hg HBE.out.size (fun k hk => by cases hk)
                  have HK1 : Hid (Ks W1 w2.heap.size v1 KT) := hk
                  clear hk hg
                  obtain ⟨z0, z1⟩ := HP0A.out W1 HB1.out
                  have HBX : Hid (∀ o, Below w2.heap.size w2 (W1.alloc o)) := fun o => HB1.out.alloc HB1.out.size o
                  have HKX : Hid (∀ o, Ks (W1.alloc o) w2.heap.size v1 KT) := fun o => HK1.out.alloc o
                  go_wp2_with (at_builtin; refine wp_keys_push _ rfl _ _ rfl w2.heap.size v1 KT rfl (HKX.out _) ⟨W1.heap.size, 0, none⟩ 1 1 [zk] rfl rfl ?c1 (by have := HL1.out; omega) (HBX.out _).size ?_)
                  case c1 =>
                    intro i u hu
                    match i, hu with
                    | 0, hu =>
                      simp only [List.getElem?_cons_zero, Option.some.injEq] at hu
                      subst hu
                      exact boxed0 _ _ _ _ 0 _ rfl
                  intro v2 W2 hk hg _
                  have HB2' : Hid (Below w2.heap.size w2 W2) := (HBX.out _).grown hg (HBX.out _).size (fun k hk => HK1.out.own_block k hk)
                  have HK2 : Hid (Ks W2 w2.heap.size v2 (KT ++ [zk])) := hk
                  clear hk hg z0 z1 HBX HKX HK1 HB1
                  go_wp2_with (at_builtin; refine wp_keys_part _ rfl _ _ rfl w2.heap.size v2 (.slice (some ⟨kg, 0, none⟩) (S.length - 0) 0) (KT ++ [zk]) KD rfl HK2.out rfl (HKD.out _ HB2'.out) (by have := HL1.out; simp; omega) HB2'.out.size ?_)
                  intro v3 W3 hk hg
                  have HB3 : Hid (Below w2.heap.size w2 W3) := HB2'.out.grown hg HB2'.out.size (fun k hk => HK2.out.own_block k hk)
                  have HK3 : Hid (Ks W3 w2.heap.size v3 (KT ++ zk :: KD)) := hk
                  clear hk hg HK2 HB2'
                  go_wp2_with (at_builtin; refine wp_ints_part _ rfl _ _ rfl w2.heap.size (.slice none 0 0) (.slice (some ⟨wg, 0, none⟩) 0 0) [] NT rfl (Is.nil _ _) rfl (HWT.out _ HB3.out) (by have := HL1.out; simp; omega) HB3.out.size ?_)
                  intro v4 W4 hk hg
                  have HB4 : Hid (Below w2.heap.size w2 W4) := HB3.out.grown hg HB3.out.size (fun k hk => by cases hk)
                  have HK4 : Hid (Ks W4 w2.heap.size v3 (KT ++ zk :: KD)) := HK3.out.chg (S := []) (Chg.grown hg (fun k hk => by cases hk)) (by simp)
                  have HI4 : Hid (Is W4 w2.heap.size v4 NT) := hk
                  clear hk hg HK3 HB3
                  have HBX : Hid (∀ o, Below w2.heap.size w2 (W4.alloc o)) := fun o => HB4.out.alloc HB4.out.size o
                  go_wp2_with (at_builtin; refine wp_ints_part _ rfl _ _ rfl w2.heap.size v4 (.slice (some ⟨W4.heap.size, 0, none⟩) 1 1) NT [gw] rfl (HI4.out.alloc _) rfl (part_one W4 _ _) (by have := HL1.out; simp; omega) (HBX.out _).size ?_)
                  intro v5 W5 hk hg
                  have HB5 : Hid (Below w2.heap.size w2 W5) := (HBX.out _).grown hg (HBX.out _).size (fun k hk => HI4.out.own_block k hk)
                  have HK5 : Hid (Ks W5 w2.heap.size v3 (KT ++ zk :: KD)) := Ks.apart (HK4.out.alloc _) (HI4.out.alloc _) hg
                  have HI5 : Hid (Is W5 w2.heap.size v5 (NT ++ [gw])) := hk
                  clear hk hg HK4 HB4 HBX HI4
                  go_wp2_with (at_builtin; refine wp_ints_part _ rfl _ _ rfl w2.heap.size v5 (.slice (some ⟨wg, 0, none⟩) (S.length - 0) 0) (NT ++ [gw]) ND rfl HI5.out rfl (HWD.out _ HB5.out) (by have := HL1.out; simp; omega) HB5.out.size ?_)
                  intro v6 W6 hk hg
                  have HB6 : Hid (Below w2.heap.size w2 W6) := HB5.out.grown hg HB5.out.size (fun k hk => HI5.out.own_block k hk)
                  have HK6 : Hid (Ks W6 w.heap.size v3 (KT ++ zk :: KD)) := (Ks.apart HK5.out HI5.out hg).low HB2.out.size
                  have HI6 : Hid (Is W6 w.heap.size v6 (NT ++ gw :: ND)) := is_low hk HB2.out.size
                  clear hk hg HK5 HB5 HI5
                  go_wp2
                  go_roundw
                  case rel => exact ⟨_, _, j + 1, by omega, rfl, rfl, by go_num, by rw [HSN.out, HM1.out]; exact HK6.out, by rw [HSN.out, HM2.out]; exact HI6.out, fun e => (by rw [HSN.out] at e; simp at e), HB2.out.trans (HB6.out.mono HB2.out.size)⟩
                  case measure => simp [intOf]; omega
            · have dg : decide (0 < gw) = false := decide_eq_false hg0
              have HSN : Hid (SJ l now (j + 1) = S) := by
                show _ = _
                rw [HSJ.out, HIT.out, if_neg hg0]
              clear hg0
              go_wp2
              go_roundw
              case rel => exact ⟨_, _, j + 1, by omega, rfl, rfl, by go_num, by rw [HSN.out]; exact HX2.out.keep HBE.out, by rw [HSN.out]; exact HY2.out.keep HBE.out, fun e => absurd (HSN.out.symm.trans e) HSE.out, HB2.out.trans (HBE.out.mono HB2.out.size)⟩
              case measure => simp [intOf]; omega
          · obtain ⟨m, hm⟩ : ∃ m, q = m + 1 := ⟨q - 1, by omega⟩
            have hml : m < S.length := by omega
            have d0 : decide ((0 : Int) < (q : Int)) = true := decide_eq_true (by omega)
            have d5 : 0 < q := by omega
            have hsl := HSL.out
            have w1x : IntKind.i64.wrap ((q : Int) - 1) = (m : Int) := by rw [IntWalk.i64_in _ ⟨by omega, by omega⟩]; omega
            have n0 : (0 : Int) ≤ (m : Int) := by omega
            have n1 : (m : Int) < (S.length : Int) := by omega
            have m0 : wr.drew.cell? ⟨kg, m, none⟩ = some (.string S[m].1) := (HBB.out.cell (p := ⟨kg, m, none⟩) hkg).trans (HX2.out.cells (by rw [List.getElem?_map, List.getElem?_eq_getElem hml]; rfl))
            have m1 : wr.drew.cell? ⟨wg, m, none⟩ = some (.int .i64 S[m].2) := (HBB.out.cell (p := ⟨wg, m, none⟩) hwg).trans (HY2.out.cells (by rw [List.getElem?_map, List.getElem?_eq_getElem hml]; rfl))
            have HM := Lib.hid hm
            clear hm hsl
            have HDR := Lib.hid (List.drop_eq_getElem_cons hml)
            have HSM : Hid (∀ y, hotter (zk, gw) S[m] = false → y = m → ∃ h : y < S.length, hotter (zk, gw) S[y] = false) := fun y h e => by subst e; exact ⟨hml, h⟩
            generalize S[m] = y at *
            obtain ⟨yk, yw⟩ := y
            dsimp only at m0 m1
            have HHT : Hid (hotter (zk, gw) (yk, yw) = if gw = yw then Op.bytesLess zk.toList yk.toList else decide (yw < gw)) := rfl
            by_cases hlt2 : yw < gw
            · have d1 : decide (yw < gw) = true := decide_eq_true hlt2
              have HD2 : Hid (∀ y ∈ S.drop m, hotter (zk, gw) y = true) := by
                intro y hy
                rw [HDR.out] at hy
                rcases List.mem_cons.1 hy with rfl | hy
                · rw [HHT.out, if_neg (by omega), d1]
                · exact HD.out y (by rw [HM.out]; exact hy)
              clear hkl2 hlt2
              go_wp2_with fail
              refine wp_region_sched (fun W => W.cell? ⟨b, 0, none⟩ = some (.slice (some ⟨g, 0, none⟩) l.length c) ∧ W.cell? ⟨g, j * 3, none⟩ = some (.string zk) ∧ W.cell? ⟨kg, m, none⟩ = some (.string yk) ∧ W.cell? ⟨wg, m, none⟩ = some (.int .i64 yw)) 32 [(0, false), (1, false), (2, false), (3, false), (4, false), (5, false), (6, false), (7, false), (8, false), (9, false), (10, false), (11, false), (12, false), (13, false), (14, false), (15, false), (16, false), (17, false), (18, false), (19, false), (20, false), (21, false), (22, false), (23, false), (24, false), (25, false), (26, false), (27, false), (28, false), (29, false), (30, false), (31, false)] (by kernel_rfl) (by kernel_rfl) ⟨HP0.out, HP1.out, m0, m1⟩ ?_
              simp only [List.drop_succ_cons, List.drop_zero]
              iterate 32 (apply wpSch_step rfl; (intro W hS K hK; obtain ⟨r0, r1, r2, r3⟩ := hS; go_simp; exact hK _ rfl))
              refine wpSch_nil ?_
              clear m0 m1
              go_wp2
              go_roundw
              case rel => exact ⟨m, by omega, by simp, HD2, HBB.out.drew⟩
              case measure => have := HM.out; simp [intOf]; omega
            · have d1 : decide (yw < gw) = false := decide_eq_false hlt2
              by_cases heq : yw = gw
              · have d2 : (yw == gw) = true := by rw [heq]; simp
                have hgt := fun W => str_gtr yk zk W
                cases hbl : Op.bytesLess zk.toList yk.toList
                · rw [hbl] at hgt
                  have HA : Hid (∃ h : q - 1 < S.length, hotter (zk, gw) S[q - 1] = false) := HSM.out (q - 1) (by rw [HHT.out, if_pos heq.symm, hbl]) (by have := HM.out; omega)
                  clear hbl
                  go_wp2_with fail
                  refine wp_region_sched (fun W => W.cell? ⟨b, 0, none⟩ = some (.slice (some ⟨g, 0, none⟩) l.length c) ∧ W.cell? ⟨g, j * 3, none⟩ = some (.string zk) ∧ W.cell? ⟨kg, m, none⟩ = some (.string yk) ∧ W.cell? ⟨wg, m, none⟩ = some (.int .i64 yw)) 32 [(0, false), (1, false), (2, false), (3, false), (4, false), (5, false), (6, false), (7, false), (8, false), (9, false), (10, false), (11, false), (12, false), (13, false), (14, false), (15, false), (16, false), (17, false), (18, false), (19, false), (20, false), (21, false), (22, false), (23, false), (24, false), (25, false), (26, false), (27, false), (28, false), (29, false), (30, false), (31, false)] (by kernel_rfl) (by kernel_rfl) ⟨HP0.out, HP1.out, m0, m1⟩ ?_
                  simp only [List.drop_succ_cons, List.drop_zero]
                  iterate 32 (apply wpSch_step rfl; (intro W hS K hK; obtain ⟨r0, r1, r2, r3⟩ := hS; go_simp; exact hK _ rfl))
                  refine wpSch_nil ?_
                  have HA : Hid (q = 0 ∨ ∃ h : q - 1 < S.length, hotter (zk, gw) S[q - 1] = false) := .inr HA.out
                  clear m0 m1
                  have HBE : Hid (Below w2.heap.size w2 wr.drew) := HBB.out.drew
                  have HINS : Hid (insI (zk, gw) S = S.take q ++ (zk, gw) :: S.drop q) := ins_at HSO.out (zk, gw) q hq HD.out HA.out
                  by_cases hg0 : 0 < gw
                  · have dg : decide (0 < gw) = true := decide_eq_true hg0
                    have HSN : Hid (SJ l now (j + 1) = S.take q ++ (zk, gw) :: S.drop q) := by
                      show _ = _
                      rw [HSJ.out, HIT.out, if_pos hg0]
                      exact HINS.out
                    clear hg0
                    have HQX : q ≤ xc ∧ q ≤ yc := by have := HXC.out; have := HYC.out; exact ⟨by omega, by omega⟩
                    rcases Nat.lt_or_ge q xc with e1 | e1
                    · rcases Nat.lt_or_ge q yc with e2 | e2
                      · skip
                        have f1 : ¬ xc - q = 0 := by omega
                        have f3 : ¬ xc ≤ q := by omega
                        have f2 : ¬ yc - q = 0 := by omega
                        have f4 : ¬ yc ≤ q := by omega
                        have s0 : (0 : Int) ≤ ((q : Nat) : Int) := by omega
                        have s1 : ((q : Nat) : Int) ≤ (xc : Int) := by have := HXC.out; omega
                        have s2 : ((q : Nat) : Int) ≤ (S.length : Int) := by omega
                        have s3 : (S.length : Int) ≤ (xc : Int) := by have := HXC.out; omega
                        have s4 : ((q : Nat) : Int) ≤ (yc : Int) := by have := HYC.out; omega
                        have s5 : (S.length : Int) ≤ (yc : Int) := by have := HYC.out; omega
                        have HS9 : Hid (S.length ≤ 20000) := by show _ ≤ _; have := HSL.out; omega
                        obtain ⟨W0, hW0⟩ : ∃ W, W = wr.drew := ⟨_, rfl⟩
                        rw [← hW0] at HBE HP0 HP1
                        have HKT : Hid (∀ W, Below w2.heap.size w2 W → PartV W (.slice (some ⟨kg, 0, none⟩) q xc) (((S.map (·.1)).take q).map Value.string)) := fun W hW => part_front (f := Value.string) (l := S.map (·.1)) (fun i x hx => (HX2.out.keep hW).cells hx) (by rw [List.length_map]; exact hq)
                        have HKD : Hid (∀ W, Below w2.heap.size w2 W → PartV W (.slice (some ⟨kg, q, none⟩) (S.length - q) (xc - q)) (((S.map (·.1)).drop q).map Value.string)) := fun W hW => part_back (f := Value.string) (l := S.map (·.1)) (fun i x hx => (HX2.out.keep hW).cells hx) (by rw [List.length_map])
                        have HWT : Hid (∀ W, Below w2.heap.size w2 W → PartV W (.slice (some ⟨wg, 0, none⟩) q yc) (((S.map (·.2)).take q).map (Value.int .i64))) := fun W hW => part_front (f := Value.int .i64) (l := S.map (·.2)) (fun i x hx => (HY2.out.keep hW).cells hx) (by rw [List.length_map]; exact hq)
                        have HWD : Hid (∀ W, Below w2.heap.size w2 W → PartV W (.slice (some ⟨wg, q, none⟩) (S.length - q) (yc - q)) (((S.map (·.2)).drop q).map (Value.int .i64))) := fun W hW => part_back (f := Value.int .i64) (l := S.map (·.2)) (fun i x hx => (HY2.out.keep hW).cells hx) (by rw [List.length_map])
                        have HL1 : Hid (((S.map (·.1)).take q).length ≤ 20000 ∧ ((S.map (·.1)).drop q).length ≤ 20000 ∧ ((S.map (·.2)).take q).length ≤ 20000 ∧ ((S.map (·.2)).drop q).length ≤ 20000) := by
                          have := HS9.out
                          refine ⟨?_, ?_, ?_, ?_⟩ <;> simp only [List.length_take, List.length_drop, List.length_map] <;> omega
                        have HP0A : Hid (∀ W, Below w2.heap.size w2 W → W.cell? ⟨b, 0, none⟩ = some (.slice (some ⟨g, 0, none⟩) l.length c) ∧ W.cell? ⟨g, j * 3, none⟩ = some (.string zk)) := fun W hW => ⟨(hW.cell (p := ⟨b, 0, none⟩) (lt_of_cell HPA.out)).trans HPA.out, (hW.cell (p := ⟨g, j * 3, none⟩) (lt_of_cell HPB.out)).trans HPB.out⟩
                        rw [← hW0]
                        clear hW0
                        have HM1 : Hid ((S.take q ++ (zk, gw) :: S.drop q).map (·.1) = (S.map (·.1)).take q ++ zk :: (S.map (·.1)).drop q) := by show _ = _; rw [List.map_append, List.map_cons, List.map_take, List.map_drop]
                        have HM2 : Hid ((S.take q ++ (zk, gw) :: S.drop q).map (·.2) = (S.map (·.2)).take q ++ gw :: (S.map (·.2)).drop q) := by show _ = _; rw [List.map_append, List.map_cons, List.map_take, List.map_drop]
                        generalize ((S.map (·.1)).take q) = KT at *
                        generalize ((S.map (·.1)).drop q) = KD at *
                        generalize ((S.map (·.2)).take q) = NT at *
                        generalize ((S.map (·.2)).drop q) = ND at *
                        go_wp2_with (at_builtin; refine wp_keys_part _ rfl _ _ rfl w2.heap.size (.slice none 0 0) (.slice (some ⟨kg, 0, none⟩) q xc) [] KT rfl (Ks.nil _ _) rfl (HKT.out _ HBE.out) (by have := HL1.out; simp; omega) HBE.out.size ?_)
                        intro v1 W1 hk hg
                        have HB1 : Hid (Below w2.heap.size w2 W1) := HBE.out.grown hg HBE.out.size (fun k hk => by cases hk)
                        have HK1 : Hid (Ks W1 w2.heap.size v1 KT) := hk
                        clear hk hg
                        obtain ⟨z0, z1⟩ := HP0A.out W1 HB1.out
                        have HBX : Hid (∀ o, Below w2.heap.size w2 (W1.alloc o)) := fun o => HB1.out.alloc HB1.out.size o
                        have HKX : Hid (∀ o, Ks (W1.alloc o) w2.heap.size v1 KT) := fun o => HK1.out.alloc o
                        go_wp2_with (at_builtin; refine wp_keys_push _ rfl _ _ rfl w2.heap.size v1 KT rfl (HKX.out _) ⟨W1.heap.size, 0, none⟩ 1 1 [zk] rfl rfl ?c1 (by have := HL1.out; omega) (HBX.out _).size ?_)
                        case c1 =>
                          intro i u hu
                          match i, hu with
                          | 0, hu =>
                            simp only [List.getElem?_cons_zero, Option.some.injEq] at hu
                            subst hu
                            exact boxed0 _ _ _ _ 0 _ rfl
                        intro v2 W2 hk hg _
                        have HB2' : Hid (Below w2.heap.size w2 W2) := (HBX.out _).grown hg (HBX.out _).size (fun k hk => HK1.out.own_block k hk)
                        have HK2 : Hid (Ks W2 w2.heap.size v2 (KT ++ [zk])) := hk
                        clear hk hg z0 z1 HBX HKX HK1 HB1
                        go_wp2_with (at_builtin; refine wp_keys_part _ rfl _ _ rfl w2.heap.size v2 (.slice (some ⟨kg, q, none⟩) (S.length - q) (xc - q)) (KT ++ [zk]) KD rfl HK2.out rfl (HKD.out _ HB2'.out) (by have := HL1.out; simp; omega) HB2'.out.size ?_)
                        intro v3 W3 hk hg
                        have HB3 : Hid (Below w2.heap.size w2 W3) := HB2'.out.grown hg HB2'.out.size (fun k hk => HK2.out.own_block k hk)
                        have HK3 : Hid (Ks W3 w2.heap.size v3 (KT ++ zk :: KD)) := hk
                        clear hk hg HK2 HB2'
                        go_wp2_with (at_builtin; refine wp_ints_part _ rfl _ _ rfl w2.heap.size (.slice none 0 0) (.slice (some ⟨wg, 0, none⟩) q yc) [] NT rfl (Is.nil _ _) rfl (HWT.out _ HB3.out) (by have := HL1.out; simp; omega) HB3.out.size ?_)
                        intro v4 W4 hk hg
                        have HB4 : Hid (Below w2.heap.size w2 W4) := HB3.out.grown hg HB3.out.size (fun k hk => by cases hk)
                        have HK4 : Hid (Ks W4 w2.heap.size v3 (KT ++ zk :: KD)) := HK3.out.chg (S := []) (Chg.grown hg (fun k hk => by cases hk)) (by simp)
                        have HI4 : Hid (Is W4 w2.heap.size v4 NT) := hk
                        clear hk hg HK3 HB3
                        have HBX : Hid (∀ o, Below w2.heap.size w2 (W4.alloc o)) := fun o => HB4.out.alloc HB4.out.size o
                        go_wp2_with (at_builtin; refine wp_ints_part _ rfl _ _ rfl w2.heap.size v4 (.slice (some ⟨W4.heap.size, 0, none⟩) 1 1) NT [gw] rfl (HI4.out.alloc _) rfl (part_one W4 _ _) (by have := HL1.out; simp; omega) (HBX.out _).size ?_)
                        intro v5 W5 hk hg
                        have HB5 : Hid (Below w2.heap.size w2 W5) := (HBX.out _).grown hg (HBX.out _).size (fun k hk => HI4.out.own_block k hk)
                        have HK5 : Hid (Ks W5 w2.heap.size v3 (KT ++ zk :: KD)) := Ks.apart (HK4.out.alloc _) (HI4.out.alloc _) hg
                        have HI5 : Hid (Is W5 w2.heap.size v5 (NT ++ [gw])) := hk
                        clear hk hg HK4 HB4 HBX HI4
                        go_wp2_with (at_builtin; refine wp_ints_part _ rfl _ _ rfl w2.heap.size v5 (.slice (some ⟨wg, q, none⟩) (S.length - q) (yc - q)) (NT ++ [gw]) ND rfl HI5.out rfl (HWD.out _ HB5.out) (by have := HL1.out; simp; omega) HB5.out.size ?_)
                        intro v6 W6 hk hg
                        have HB6 : Hid (Below w2.heap.size w2 W6) := HB5.out.grown hg HB5.out.size (fun k hk => HI5.out.own_block k hk)
                        have HK6 : Hid (Ks W6 w.heap.size v3 (KT ++ zk :: KD)) := (Ks.apart HK5.out HI5.out hg).low HB2.out.size
                        have HI6 : Hid (Is W6 w.heap.size v6 (NT ++ gw :: ND)) := is_low hk HB2.out.size
                        clear hk hg HK5 HB5 HI5
                        go_wp2
                        go_roundw
                        case rel => exact ⟨_, _, j + 1, by omega, rfl, rfl, by go_num, by rw [HSN.out, HM1.out]; exact HK6.out, by rw [HSN.out, HM2.out]; exact HI6.out, fun e => (by rw [HSN.out] at e; simp at e), HB2.out.trans (HB6.out.mono HB2.out.size)⟩
                        case measure => simp [intOf]; omega
                      · skip
                        have f1 : ¬ xc - q = 0 := by omega
                        have f3 : ¬ xc ≤ q := by omega
                        obtain rfl : q = yc := by omega
                        have s0 : (0 : Int) ≤ ((q : Nat) : Int) := by omega
                        have s1 : ((q : Nat) : Int) ≤ (xc : Int) := by have := HXC.out; omega
                        have s2 : ((q : Nat) : Int) ≤ (S.length : Int) := by omega
                        have s3 : (S.length : Int) ≤ (xc : Int) := by have := HXC.out; omega
                        have s4 : ((q : Nat) : Int) ≤ ((q : Nat) : Int) := by have := HYC.out; omega
                        have s5 : (S.length : Int) ≤ ((q : Nat) : Int) := by have := HYC.out; omega
                        have HS9 : Hid (S.length ≤ 20000) := by show _ ≤ _; have := HSL.out; omega
                        obtain ⟨W0, hW0⟩ : ∃ W, W = wr.drew := ⟨_, rfl⟩
                        rw [← hW0] at HBE HP0 HP1
                        have HKT : Hid (∀ W, Below w2.heap.size w2 W → PartV W (.slice (some ⟨kg, 0, none⟩) q xc) (((S.map (·.1)).take q).map Value.string)) := fun W hW => part_front (f := Value.string) (l := S.map (·.1)) (fun i x hx => (HX2.out.keep hW).cells hx) (by rw [List.length_map]; exact hq)
                        have HKD : Hid (∀ W, Below w2.heap.size w2 W → PartV W (.slice (some ⟨kg, q, none⟩) (S.length - q) (xc - q)) (((S.map (·.1)).drop q).map Value.string)) := fun W hW => part_back (f := Value.string) (l := S.map (·.1)) (fun i x hx => (HX2.out.keep hW).cells hx) (by rw [List.length_map])
                        have HWT : Hid (∀ W, Below w2.heap.size w2 W → PartV W (.slice (some ⟨wg, 0, none⟩) q q) (((S.map (·.2)).take q).map (Value.int .i64))) := fun W hW => part_front (f := Value.int .i64) (l := S.map (·.2)) (fun i x hx => (HY2.out.keep hW).cells hx) (by rw [List.length_map]; exact hq)
                        have HWD : Hid (∀ W, Below w2.heap.size w2 W → PartV W (.slice (some ⟨wg, 0, none⟩) (S.length - q) 0) (((S.map (·.2)).drop q).map (Value.int .i64))) := fun W _ => part_none (by rw [List.length_map, List.length_drop, List.length_map]) (by have := HYC.out; omega)
                        have HL1 : Hid (((S.map (·.1)).take q).length ≤ 20000 ∧ ((S.map (·.1)).drop q).length ≤ 20000 ∧ ((S.map (·.2)).take q).length ≤ 20000 ∧ ((S.map (·.2)).drop q).length ≤ 20000) := by
                          have := HS9.out
                          refine ⟨?_, ?_, ?_, ?_⟩ <;> simp only [List.length_take, List.length_drop, List.length_map] <;> omega
                        have HP0A : Hid (∀ W, Below w2.heap.size w2 W → W.cell? ⟨b, 0, none⟩ = some (.slice (some ⟨g, 0, none⟩) l.length c) ∧ W.cell? ⟨g, j * 3, none⟩ = some (.string zk)) := fun W hW => ⟨(hW.cell (p := ⟨b, 0, none⟩) (lt_of_cell HPA.out)).trans HPA.out, (hW.cell (p := ⟨g, j * 3, none⟩) (lt_of_cell HPB.out)).trans HPB.out⟩
                        rw [← hW0]
                        clear hW0
                        have HM1 : Hid ((S.take q ++ (zk, gw) :: S.drop q).map (·.1) = (S.map (·.1)).take q ++ zk :: (S.map (·.1)).drop q) := by show _ = _; rw [List.map_append, List.map_cons, List.map_take, List.map_drop]
                        have HM2 : Hid ((S.take q ++ (zk, gw) :: S.drop q).map (·.2) = (S.map (·.2)).take q ++ gw :: (S.map (·.2)).drop q) := by show _ = _; rw [List.map_append, List.map_cons, List.map_take, List.map_drop]
                        generalize ((S.map (·.1)).take q) = KT at *
                        generalize ((S.map (·.1)).drop q) = KD at *
                        generalize ((S.map (·.2)).take q) = NT at *
                        generalize ((S.map (·.2)).drop q) = ND at *
                        go_wp2_with (at_builtin; refine wp_keys_part _ rfl _ _ rfl w2.heap.size (.slice none 0 0) (.slice (some ⟨kg, 0, none⟩) q xc) [] KT rfl (Ks.nil _ _) rfl (HKT.out _ HBE.out) (by have := HL1.out; simp; omega) HBE.out.size ?_)
                        intro v1 W1 hk hg
                        have HB1 : Hid (Below w2.heap.size w2 W1) := HBE.out.grown hg HBE.out.size (fun k hk => by cases hk)
                        have HK1 : Hid (Ks W1 w2.heap.size v1 KT) := hk
                        clear hk hg
                        obtain ⟨z0, z1⟩ := HP0A.out W1 HB1.out
                        have HBX : Hid (∀ o, Below w2.heap.size w2 (W1.alloc o)) := fun o => HB1.out.alloc HB1.out.size o
                        have HKX : Hid (∀ o, Ks (W1.alloc o) w2.heap.size v1 KT) := fun o => HK1.out.alloc o
                        go_wp2_with (at_builtin; refine wp_keys_push _ rfl _ _ rfl w2.heap.size v1 KT rfl (HKX.out _) ⟨W1.heap.size, 0, none⟩ 1 1 [zk] rfl rfl ?c1 (by have := HL1.out; omega) (HBX.out _).size ?_)
                        case c1 =>
                          intro i u hu
                          match i, hu with
                          | 0, hu =>
                            simp only [List.getElem?_cons_zero, Option.some.injEq] at hu
                            subst hu
                            exact boxed0 _ _ _ _ 0 _ rfl
                        intro v2 W2 hk hg _
                        have HB2' : Hid (Below w2.heap.size w2 W2) := (HBX.out _).grown hg (HBX.out _).size (fun k hk => HK1.out.own_block k hk)
                        have HK2 : Hid (Ks W2 w2.heap.size v2 (KT ++ [zk])) := hk
                        clear hk hg z0 z1 HBX HKX HK1 HB1
                        go_wp2_with (at_builtin; refine wp_keys_part _ rfl _ _ rfl w2.heap.size v2 (.slice (some ⟨kg, q, none⟩) (S.length - q) (xc - q)) (KT ++ [zk]) KD rfl HK2.out rfl (HKD.out _ HB2'.out) (by have := HL1.out; simp; omega) HB2'.out.size ?_)
                        intro v3 W3 hk hg
                        have HB3 : Hid (Below w2.heap.size w2 W3) := HB2'.out.grown hg HB2'.out.size (fun k hk => HK2.out.own_block k hk)
                        have HK3 : Hid (Ks W3 w2.heap.size v3 (KT ++ zk :: KD)) := hk
                        clear hk hg HK2 HB2'
                        go_wp2_with (at_builtin; refine wp_ints_part _ rfl _ _ rfl w2.heap.size (.slice none 0 0) (.slice (some ⟨wg, 0, none⟩) q q) [] NT rfl (Is.nil _ _) rfl (HWT.out _ HB3.out) (by have := HL1.out; simp; omega) HB3.out.size ?_)
                        intro v4 W4 hk hg
                        have HB4 : Hid (Below w2.heap.size w2 W4) := HB3.out.grown hg HB3.out.size (fun k hk => by cases hk)
                        have HK4 : Hid (Ks W4 w2.heap.size v3 (KT ++ zk :: KD)) := HK3.out.chg (S := []) (Chg.grown hg (fun k hk => by cases hk)) (by simp)
                        have HI4 : Hid (Is W4 w2.heap.size v4 NT) := hk
                        clear hk hg HK3 HB3
                        have HBX : Hid (∀ o, Below w2.heap.size w2 (W4.alloc o)) := fun o => HB4.out.alloc HB4.out.size o
                        go_wp2_with (at_builtin; refine wp_ints_part _ rfl _ _ rfl w2.heap.size v4 (.slice (some ⟨W4.heap.size, 0, none⟩) 1 1) NT [gw] rfl (HI4.out.alloc _) rfl (part_one W4 _ _) (by have := HL1.out; simp; omega) (HBX.out _).size ?_)
                        intro v5 W5 hk hg
                        have HB5 : Hid (Below w2.heap.size w2 W5) := (HBX.out _).grown hg (HBX.out _).size (fun k hk => HI4.out.own_block k hk)
                        have HK5 : Hid (Ks W5 w2.heap.size v3 (KT ++ zk :: KD)) := Ks.apart (HK4.out.alloc _) (HI4.out.alloc _) hg
                        have HI5 : Hid (Is W5 w2.heap.size v5 (NT ++ [gw])) := hk
                        clear hk hg HK4 HB4 HBX HI4
                        go_wp2_with (at_builtin; refine wp_ints_part _ rfl _ _ rfl w2.heap.size v5 (.slice (some ⟨wg, 0, none⟩) (S.length - q) 0) (NT ++ [gw]) ND rfl HI5.out rfl (HWD.out _ HB5.out) (by have := HL1.out; simp; omega) HB5.out.size ?_)
                        intro v6 W6 hk hg
                        have HB6 : Hid (Below w2.heap.size w2 W6) := HB5.out.grown hg HB5.out.size (fun k hk => HI5.out.own_block k hk)
                        have HK6 : Hid (Ks W6 w.heap.size v3 (KT ++ zk :: KD)) := (Ks.apart HK5.out HI5.out hg).low HB2.out.size
                        have HI6 : Hid (Is W6 w.heap.size v6 (NT ++ gw :: ND)) := is_low hk HB2.out.size
                        clear hk hg HK5 HB5 HI5
                        go_wp2
                        go_roundw
                        case rel => exact ⟨_, _, j + 1, by omega, rfl, rfl, by go_num, by rw [HSN.out, HM1.out]; exact HK6.out, by rw [HSN.out, HM2.out]; exact HI6.out, fun e => (by rw [HSN.out] at e; simp at e), HB2.out.trans (HB6.out.mono HB2.out.size)⟩
                        case measure => simp [intOf]; omega
                    · rcases Nat.lt_or_ge q yc with e2 | e2
                      · skip
                        obtain rfl : q = xc := by omega
                        have f2 : ¬ yc - q = 0 := by omega
                        have f4 : ¬ yc ≤ q := by omega
                        have s0 : (0 : Int) ≤ ((q : Nat) : Int) := by omega
                        have s1 : ((q : Nat) : Int) ≤ ((q : Nat) : Int) := by have := HXC.out; omega
                        have s2 : ((q : Nat) : Int) ≤ (S.length : Int) := by omega
                        have s3 : (S.length : Int) ≤ ((q : Nat) : Int) := by have := HXC.out; omega
                        have s4 : ((q : Nat) : Int) ≤ (yc : Int) := by have := HYC.out; omega
                        have s5 : (S.length : Int) ≤ (yc : Int) := by have := HYC.out; omega
                        have HS9 : Hid (S.length ≤ 20000) := by show _ ≤ _; have := HSL.out; omega
                        obtain ⟨W0, hW0⟩ : ∃ W, W = wr.drew := ⟨_, rfl⟩
                        rw [← hW0] at HBE HP0 HP1
                        have HKT : Hid (∀ W, Below w2.heap.size w2 W → PartV W (.slice (some ⟨kg, 0, none⟩) q q) (((S.map (·.1)).take q).map Value.string)) := fun W hW => part_front (f := Value.string) (l := S.map (·.1)) (fun i x hx => (HX2.out.keep hW).cells hx) (by rw [List.length_map]; exact hq)
                        have HKD : Hid (∀ W, Below w2.heap.size w2 W → PartV W (.slice (some ⟨kg, 0, none⟩) (S.length - q) 0) (((S.map (·.1)).drop q).map Value.string)) := fun W _ => part_none (by rw [List.length_map, List.length_drop, List.length_map]) (by have := HXC.out; omega)
                        have HWT : Hid (∀ W, Below w2.heap.size w2 W → PartV W (.slice (some ⟨wg, 0, none⟩) q yc) (((S.map (·.2)).take q).map (Value.int .i64))) := fun W hW => part_front (f := Value.int .i64) (l := S.map (·.2)) (fun i x hx => (HY2.out.keep hW).cells hx) (by rw [List.length_map]; exact hq)
                        have HWD : Hid (∀ W, Below w2.heap.size w2 W → PartV W (.slice (some ⟨wg, q, none⟩) (S.length - q) (yc - q)) (((S.map (·.2)).drop q).map (Value.int .i64))) := fun W hW => part_back (f := Value.int .i64) (l := S.map (·.2)) (fun i x hx => (HY2.out.keep hW).cells hx) (by rw [List.length_map])
                        have HL1 : Hid (((S.map (·.1)).take q).length ≤ 20000 ∧ ((S.map (·.1)).drop q).length ≤ 20000 ∧ ((S.map (·.2)).take q).length ≤ 20000 ∧ ((S.map (·.2)).drop q).length ≤ 20000) := by
                          have := HS9.out
                          refine ⟨?_, ?_, ?_, ?_⟩ <;> simp only [List.length_take, List.length_drop, List.length_map] <;> omega
                        have HP0A : Hid (∀ W, Below w2.heap.size w2 W → W.cell? ⟨b, 0, none⟩ = some (.slice (some ⟨g, 0, none⟩) l.length c) ∧ W.cell? ⟨g, j * 3, none⟩ = some (.string zk)) := fun W hW => ⟨(hW.cell (p := ⟨b, 0, none⟩) (lt_of_cell HPA.out)).trans HPA.out, (hW.cell (p := ⟨g, j * 3, none⟩) (lt_of_cell HPB.out)).trans HPB.out⟩
                        rw [← hW0]
                        clear hW0
                        have HM1 : Hid ((S.take q ++ (zk, gw) :: S.drop q).map (·.1) = (S.map (·.1)).take q ++ zk :: (S.map (·.1)).drop q) := by show _ = _; rw [List.map_append, List.map_cons, List.map_take, List.map_drop]
                        have HM2 : Hid ((S.take q ++ (zk, gw) :: S.drop q).map (·.2) = (S.map (·.2)).take q ++ gw :: (S.map (·.2)).drop q) := by show _ = _; rw [List.map_append, List.map_cons, List.map_take, List.map_drop]
                        generalize ((S.map (·.1)).take q) = KT at *
                        generalize ((S.map (·.1)).drop q) = KD at *
                        generalize ((S.map (·.2)).take q) = NT at *
                        generalize ((S.map (·.2)).drop q) = ND at *
                        go_wp2_with (at_builtin; refine wp_keys_part _ rfl _ _ rfl w2.heap.size (.slice none 0 0) (.slice (some ⟨kg, 0, none⟩) q q) [] KT rfl (Ks.nil _ _) rfl (HKT.out _ HBE.out) (by have := HL1.out; simp; omega) HBE.out.size ?_)
                        intro v1 W1 hk hg
                        have HB1 : Hid (Below w2.heap.size w2 W1) := HBE.out.grown hg HBE.out.size (fun k hk => by cases hk)
                        have HK1 : Hid (Ks W1 w2.heap.size v1 KT) := hk
                        clear hk hg
                        obtain ⟨z0, z1⟩ := HP0A.out W1 HB1.out
                        have HBX : Hid (∀ o, Below w2.heap.size w2 (W1.alloc o)) := fun o => HB1.out.alloc HB1.out.size o
                        have HKX : Hid (∀ o, Ks (W1.alloc o) w2.heap.size v1 KT) := fun o => HK1.out.alloc o
                        go_wp2_with (at_builtin; refine wp_keys_push _ rfl _ _ rfl w2.heap.size v1 KT rfl (HKX.out _) ⟨W1.heap.size, 0, none⟩ 1 1 [zk] rfl rfl ?c1 (by have := HL1.out; omega) (HBX.out _).size ?_)
                        case c1 =>
                          intro i u hu
                          match i, hu with
                          | 0, hu =>
                            simp only [List.getElem?_cons_zero, Option.some.injEq] at hu
                            subst hu
                            exact boxed0 _ _ _ _ 0 _ rfl
                        intro v2 W2 hk hg _
                        have HB2' : Hid (Below w2.heap.size w2 W2) := (HBX.out _).grown hg (HBX.out _).size (fun k hk => HK1.out.own_block k hk)
                        have HK2 : Hid (Ks W2 w2.heap.size v2 (KT ++ [zk])) := hk
                        clear hk hg z0 z1 HBX HKX HK1 HB1
                        go_wp2_with (at_builtin; refine wp_keys_part _ rfl _ _ rfl w2.heap.size v2 (.slice (some ⟨kg, 0, none⟩) (S.length - q) 0) (KT ++ [zk]) KD rfl HK2.out rfl (HKD.out _ HB2'.out) (by have := HL1.out; simp; omega) HB2'.out.size ?_)
                        intro v3 W3 hk hg
                        have HB3 : Hid (Below w2.heap.size w2 W3) := HB2'.out.grown hg HB2'.out.size (fun k hk => HK2.out.own_block k hk)
                        have HK3 : Hid (Ks W3 w2.heap.size v3 (KT ++ zk :: KD)) := hk
                        clear hk hg HK2 HB2'
                        go_wp2_with (at_builtin; refine wp_ints_part _ rfl _ _ rfl w2.heap.size (.slice none 0 0) (.slice (some ⟨wg, 0, none⟩) q yc) [] NT rfl (Is.nil _ _) rfl (HWT.out _ HB3.out) (by have := HL1.out; simp; omega) HB3.out.size ?_)
                        intro v4 W4 hk hg
                        have HB4 : Hid (Below w2.heap.size w2 W4) := HB3.out.grown hg HB3.out.size (fun k hk => by cases hk)
                        have HK4 : Hid (Ks W4 w2.heap.size v3 (KT ++ zk :: KD)) := HK3.out.chg (S := []) (Chg.grown hg (fun k hk => by cases hk)) (by simp)
                        have HI4 : Hid (Is W4 w2.heap.size v4 NT) := hk
                        clear hk hg HK3 HB3
                        have HBX : Hid (∀ o, Below w2.heap.size w2 (W4.alloc o)) := fun o => HB4.out.alloc HB4.out.size o
                        go_wp2_with (at_builtin; refine wp_ints_part _ rfl _ _ rfl w2.heap.size v4 (.slice (some ⟨W4.heap.size, 0, none⟩) 1 1) NT [gw] rfl (HI4.out.alloc _) rfl (part_one W4 _ _) (by have := HL1.out; simp; omega) (HBX.out _).size ?_)
                        intro v5 W5 hk hg
                        have HB5 : Hid (Below w2.heap.size w2 W5) := (HBX.out _).grown hg (HBX.out _).size (fun k hk => HI4.out.own_block k hk)
                        have HK5 : Hid (Ks W5 w2.heap.size v3 (KT ++ zk :: KD)) := Ks.apart (HK4.out.alloc _) (HI4.out.alloc _) hg
                        have HI5 : Hid (Is W5 w2.heap.size v5 (NT ++ [gw])) := hk
                        clear hk hg HK4 HB4 HBX HI4
                        go_wp2_with (at_builtin; refine wp_ints_part _ rfl _ _ rfl w2.heap.size v5 (.slice (some ⟨wg, q, none⟩) (S.length - q) (yc - q)) (NT ++ [gw]) ND rfl HI5.out rfl (HWD.out _ HB5.out) (by have := HL1.out; simp; omega) HB5.out.size ?_)
                        intro v6 W6 hk hg
                        have HB6 : Hid (Below w2.heap.size w2 W6) := HB5.out.grown hg HB5.out.size (fun k hk => HI5.out.own_block k hk)
                        have HK6 : Hid (Ks W6 w.heap.size v3 (KT ++ zk :: KD)) := (Ks.apart HK5.out HI5.out hg).low HB2.out.size
                        have HI6 : Hid (Is W6 w.heap.size v6 (NT ++ gw :: ND)) := is_low hk HB2.out.size
                        clear hk hg HK5 HB5 HI5
                        go_wp2
                        go_roundw
                        case rel => exact ⟨_, _, j + 1, by omega, rfl, rfl, by go_num, by rw [HSN.out, HM1.out]; exact HK6.out, by rw [HSN.out, HM2.out]; exact HI6.out, fun e => (by rw [HSN.out] at e; simp at e), HB2.out.trans (HB6.out.mono HB2.out.size)⟩
                        case measure => simp [intOf]; omega
                      · skip
                        obtain rfl : q = xc := by omega
                        obtain rfl : q = yc := by omega
                        have s0 : (0 : Int) ≤ ((q : Nat) : Int) := by omega
                        have s1 : ((q : Nat) : Int) ≤ ((q : Nat) : Int) := by have := HXC.out; omega
                        have s2 : ((q : Nat) : Int) ≤ (S.length : Int) := by omega
                        have s3 : (S.length : Int) ≤ ((q : Nat) : Int) := by have := HXC.out; omega
                        have s4 : ((q : Nat) : Int) ≤ ((q : Nat) : Int) := by have := HYC.out; omega
                        have s5 : (S.length : Int) ≤ ((q : Nat) : Int) := by have := HYC.out; omega
                        have HS9 : Hid (S.length ≤ 20000) := by show _ ≤ _; have := HSL.out; omega
                        obtain ⟨W0, hW0⟩ : ∃ W, W = wr.drew := ⟨_, rfl⟩
                        rw [← hW0] at HBE HP0 HP1
                        have HKT : Hid (∀ W, Below w2.heap.size w2 W → PartV W (.slice (some ⟨kg, 0, none⟩) q q) (((S.map (·.1)).take q).map Value.string)) := fun W hW => part_front (f := Value.string) (l := S.map (·.1)) (fun i x hx => (HX2.out.keep hW).cells hx) (by rw [List.length_map]; exact hq)
                        have HKD : Hid (∀ W, Below w2.heap.size w2 W → PartV W (.slice (some ⟨kg, 0, none⟩) (S.length - q) 0) (((S.map (·.1)).drop q).map Value.string)) := fun W _ => part_none (by rw [List.length_map, List.length_drop, List.length_map]) (by have := HXC.out; omega)
                        have HWT : Hid (∀ W, Below w2.heap.size w2 W → PartV W (.slice (some ⟨wg, 0, none⟩) q q) (((S.map (·.2)).take q).map (Value.int .i64))) := fun W hW => part_front (f := Value.int .i64) (l := S.map (·.2)) (fun i x hx => (HY2.out.keep hW).cells hx) (by rw [List.length_map]; exact hq)
                        have HWD : Hid (∀ W, Below w2.heap.size w2 W → PartV W (.slice (some ⟨wg, 0, none⟩) (S.length - q) 0) (((S.map (·.2)).drop q).map (Value.int .i64))) := fun W _ => part_none (by rw [List.length_map, List.length_drop, List.length_map]) (by have := HYC.out; omega)
                        have HL1 : Hid (((S.map (·.1)).take q).length ≤ 20000 ∧ ((S.map (·.1)).drop q).length ≤ 20000 ∧ ((S.map (·.2)).take q).length ≤ 20000 ∧ ((S.map (·.2)).drop q).length ≤ 20000) := by
                          have := HS9.out
                          refine ⟨?_, ?_, ?_, ?_⟩ <;> simp only [List.length_take, List.length_drop, List.length_map] <;> omega
                        have HP0A : Hid (∀ W, Below w2.heap.size w2 W → W.cell? ⟨b, 0, none⟩ = some (.slice (some ⟨g, 0, none⟩) l.length c) ∧ W.cell? ⟨g, j * 3, none⟩ = some (.string zk)) := fun W hW => ⟨(hW.cell (p := ⟨b, 0, none⟩) (lt_of_cell HPA.out)).trans HPA.out, (hW.cell (p := ⟨g, j * 3, none⟩) (lt_of_cell HPB.out)).trans HPB.out⟩
                        rw [← hW0]
                        clear hW0
                        have HM1 : Hid ((S.take q ++ (zk, gw) :: S.drop q).map (·.1) = (S.map (·.1)).take q ++ zk :: (S.map (·.1)).drop q) := by show _ = _; rw [List.map_append, List.map_cons, List.map_take, List.map_drop]
                        have HM2 : Hid ((S.take q ++ (zk, gw) :: S.drop q).map (·.2) = (S.map (·.2)).take q ++ gw :: (S.map (·.2)).drop q) := by show _ = _; rw [List.map_append, List.map_cons, List.map_take, List.map_drop]
                        generalize ((S.map (·.1)).take q) = KT at *
                        generalize ((S.map (·.1)).drop q) = KD at *
                        generalize ((S.map (·.2)).take q) = NT at *
                        generalize ((S.map (·.2)).drop q) = ND at *
                        go_wp2_with (at_builtin; refine wp_keys_part _ rfl _ _ rfl w2.heap.size (.slice none 0 0) (.slice (some ⟨kg, 0, none⟩) q q) [] KT rfl (Ks.nil _ _) rfl (HKT.out _ HBE.out) (by have := HL1.out; simp; omega) HBE.out.size ?_)
                        intro v1 W1 hk hg
                        have HB1 : Hid (Below w2.heap.size w2 W1) := HBE.out.grown hg HBE.out.size (fun k hk => by cases hk)
                        have HK1 : Hid (Ks W1 w2.heap.size v1 KT) := hk
                        clear hk hg
                        obtain ⟨z0, z1⟩ := HP0A.out W1 HB1.out
                        have HBX : Hid (∀ o, Below w2.heap.size w2 (W1.alloc o)) := fun o => HB1.out.alloc HB1.out.size o
                        have HKX : Hid (∀ o, Ks (W1.alloc o) w2.heap.size v1 KT) := fun o => HK1.out.alloc o
                        go_wp2_with (at_builtin; refine wp_keys_push _ rfl _ _ rfl w2.heap.size v1 KT rfl (HKX.out _) ⟨W1.heap.size, 0, none⟩ 1 1 [zk] rfl rfl ?c1 (by have := HL1.out; omega) (HBX.out _).size ?_)
                        case c1 =>
                          intro i u hu
                          match i, hu with
                          | 0, hu =>
                            simp only [List.getElem?_cons_zero, Option.some.injEq] at hu
                            subst hu
                            exact boxed0 _ _ _ _ 0 _ rfl
                        intro v2 W2 hk hg _
                        have HB2' : Hid (Below w2.heap.size w2 W2) := (HBX.out _).grown hg (HBX.out _).size (fun k hk => HK1.out.own_block k hk)
                        have HK2 : Hid (Ks W2 w2.heap.size v2 (KT ++ [zk])) := hk
                        clear hk hg z0 z1 HBX HKX HK1 HB1
                        go_wp2_with (at_builtin; refine wp_keys_part _ rfl _ _ rfl w2.heap.size v2 (.slice (some ⟨kg, 0, none⟩) (S.length - q) 0) (KT ++ [zk]) KD rfl HK2.out rfl (HKD.out _ HB2'.out) (by have := HL1.out; simp; omega) HB2'.out.size ?_)
                        intro v3 W3 hk hg
                        have HB3 : Hid (Below w2.heap.size w2 W3) := HB2'.out.grown hg HB2'.out.size (fun k hk => HK2.out.own_block k hk)
                        have HK3 : Hid (Ks W3 w2.heap.size v3 (KT ++ zk :: KD)) := hk
                        clear hk hg HK2 HB2'
                        go_wp2_with (at_builtin; refine wp_ints_part _ rfl _ _ rfl w2.heap.size (.slice none 0 0) (.slice (some ⟨wg, 0, none⟩) q q) [] NT rfl (Is.nil _ _) rfl (HWT.out _ HB3.out) (by have := HL1.out; simp; omega) HB3.out.size ?_)
                        intro v4 W4 hk hg
                        have HB4 : Hid (Below w2.heap.size w2 W4) := HB3.out.grown hg HB3.out.size (fun k hk => by cases hk)
                        have HK4 : Hid (Ks W4 w2.heap.size v3 (KT ++ zk :: KD)) := HK3.out.chg (S := []) (Chg.grown hg (fun k hk => by cases hk)) (by simp)
                        have HI4 : Hid (Is W4 w2.heap.size v4 NT) := hk
                        clear hk hg HK3 HB3
                        have HBX : Hid (∀ o, Below w2.heap.size w2 (W4.alloc o)) := fun o => HB4.out.alloc HB4.out.size o
                        go_wp2_with (at_builtin; refine wp_ints_part _ rfl _ _ rfl w2.heap.size v4 (.slice (some ⟨W4.heap.size, 0, none⟩) 1 1) NT [gw] rfl (HI4.out.alloc _) rfl (part_one W4 _ _) (by have := HL1.out; simp; omega) (HBX.out _).size ?_)
                        intro v5 W5 hk hg
                        have HB5 : Hid (Below w2.heap.size w2 W5) := (HBX.out _).grown hg (HBX.out _).size (fun k hk => HI4.out.own_block k hk)
                        have HK5 : Hid (Ks W5 w2.heap.size v3 (KT ++ zk :: KD)) := Ks.apart (HK4.out.alloc _) (HI4.out.alloc _) hg
                        have HI5 : Hid (Is W5 w2.heap.size v5 (NT ++ [gw])) := hk
                        clear hk hg HK4 HB4 HBX HI4
                        go_wp2_with (at_builtin; refine wp_ints_part _ rfl _ _ rfl w2.heap.size v5 (.slice (some ⟨wg, 0, none⟩) (S.length - q) 0) (NT ++ [gw]) ND rfl HI5.out rfl (HWD.out _ HB5.out) (by have := HL1.out; simp; omega) HB5.out.size ?_)
                        intro v6 W6 hk hg
                        have HB6 : Hid (Below w2.heap.size w2 W6) := HB5.out.grown hg HB5.out.size (fun k hk => HI5.out.own_block k hk)
                        have HK6 : Hid (Ks W6 w.heap.size v3 (KT ++ zk :: KD)) := (Ks.apart HK5.out HI5.out hg).low HB2.out.size
                        have HI6 : Hid (Is W6 w.heap.size v6 (NT ++ gw :: ND)) := is_low hk HB2.out.size
                        clear hk hg HK5 HB5 HI5
                        go_wp2
                        go_roundw
                        case rel => exact ⟨_, _, j + 1, by omega, rfl, rfl, by go_num, by rw [HSN.out, HM1.out]; exact HK6.out, by rw [HSN.out, HM2.out]; exact HI6.out, fun e => (by rw [HSN.out] at e; simp at e), HB2.out.trans (HB6.out.mono HB2.out.size)⟩
                        case measure => simp [intOf]; omega
                  · have dg : decide (0 < gw) = false := decide_eq_false hg0
                    have HSN : Hid (SJ l now (j + 1) = S) := by
                      show _ = _
                      rw [HSJ.out, HIT.out, if_neg hg0]
                    clear hg0
                    go_wp2
                    go_roundw
                    case rel => exact ⟨_, _, j + 1, by omega, rfl, rfl, by go_num, by rw [HSN.out]; exact HX2.out.keep HBE.out, by rw [HSN.out]; exact HY2.out.keep HBE.out, fun e => absurd (HSN.out.symm.trans e) HSE.out, HB2.out.trans (HBE.out.mono HB2.out.size)⟩
                    case measure => simp [intOf]; omega
                · rw [hbl] at hgt
                  have HD2 : Hid (∀ y ∈ S.drop m, hotter (zk, gw) y = true) := by
                    intro y hy
                    rw [HDR.out] at hy
                    rcases List.mem_cons.1 hy with rfl | hy
                    · rw [HHT.out, if_pos heq.symm, hbl]
                    · exact HD.out y (by rw [HM.out]; exact hy)
                  clear hbl hkl2 hlt2
                  go_wp2_with fail
                  refine wp_region_sched (fun W => W.cell? ⟨b, 0, none⟩ = some (.slice (some ⟨g, 0, none⟩) l.length c) ∧ W.cell? ⟨g, j * 3, none⟩ = some (.string zk) ∧ W.cell? ⟨kg, m, none⟩ = some (.string yk) ∧ W.cell? ⟨wg, m, none⟩ = some (.int .i64 yw)) 32 [(0, false), (1, false), (2, false), (3, false), (4, false), (5, false), (6, false), (7, false), (8, false), (9, false), (10, false), (11, false), (12, false), (13, false), (14, false), (15, false), (16, false), (17, false), (18, false), (19, false), (20, false), (21, false), (22, false), (23, false), (24, false), (25, false), (26, false), (27, false), (28, false), (29, false), (30, false), (31, false)] (by kernel_rfl) (by kernel_rfl) ⟨HP0.out, HP1.out, m0, m1⟩ ?_
                  simp only [List.drop_succ_cons, List.drop_zero]
                  iterate 32 (apply wpSch_step rfl; (intro W hS K hK; obtain ⟨r0, r1, r2, r3⟩ := hS; go_simp; exact hK _ rfl))
                  refine wpSch_nil ?_
                  clear m0 m1
                  go_wp2
                  go_roundw
                  case rel => exact ⟨m, by omega, by simp, HD2, HBB.out.drew⟩
                  case measure => have := HM.out; simp [intOf]; omega
              · have d2 : (yw == gw) = false := by simpa using heq
                have HA : Hid (∃ h : q - 1 < S.length, hotter (zk, gw) S[q - 1] = false) := HSM.out (q - 1) (by rw [HHT.out, if_neg (fun e => heq e.symm), d1]) (by have := HM.out; omega)
                go_wp2_with fail
                refine wp_region_sched (fun W => W.cell? ⟨b, 0, none⟩ = some (.slice (some ⟨g, 0, none⟩) l.length c) ∧ W.cell? ⟨g, j * 3, none⟩ = some (.string zk) ∧ W.cell? ⟨kg, m, none⟩ = some (.string yk) ∧ W.cell? ⟨wg, m, none⟩ = some (.int .i64 yw)) 32 [(0, false), (1, false), (2, false), (3, false), (4, false), (5, false), (6, false), (7, false), (8, false), (9, false), (10, false), (11, false), (12, false), (13, false), (14, false), (15, false), (16, false), (17, false), (18, false), (19, false), (20, false), (21, false), (22, false), (23, false), (24, false), (25, false), (26, false), (27, false), (28, false), (29, false), (30, false), (31, false)] (by kernel_rfl) (by kernel_rfl) ⟨HP0.out, HP1.out, m0, m1⟩ ?_
                simp only [List.drop_succ_cons, List.drop_zero]
                iterate 32 (apply wpSch_step rfl; (intro W hS K hK; obtain ⟨r0, r1, r2, r3⟩ := hS; go_simp; exact hK _ rfl))
                refine wpSch_nil ?_
                have HA : Hid (q = 0 ∨ ∃ h : q - 1 < S.length, hotter (zk, gw) S[q - 1] = false) := .inr HA.out
                clear m0 m1
                have HBE : Hid (Below w2.heap.size w2 wr.drew) := HBB.out.drew
                have HINS : Hid (insI (zk, gw) S = S.take q ++ (zk, gw) :: S.drop q) := ins_at HSO.out (zk, gw) q hq HD.out HA.out
                by_cases hg0 : 0 < gw
                · have dg : decide (0 < gw) = true := decide_eq_true hg0
                  have HSN : Hid (SJ l now (j + 1) = S.take q ++ (zk, gw) :: S.drop q) := by
                    show _ = _
                    rw [HSJ.out, HIT.out, if_pos hg0]
                    exact HINS.out
                  clear hg0
                  have HQX : q ≤ xc ∧ q ≤ yc := by have := HXC.out; have := HYC.out; exact ⟨by omega, by omega⟩
                  rcases Nat.lt_or_ge q xc with e1 | e1
                  · rcases Nat.lt_or_ge q yc with e2 | e2
                    · skip
                      have f1 : ¬ xc - q = 0 := by omega
                      have f3 : ¬ xc ≤ q := by omega
                      have f2 : ¬ yc - q = 0 := by omega
                      have f4 : ¬ yc ≤ q := by omega
                      have s0 : (0 : Int) ≤ ((q : Nat) : Int) := by omega
                      have s1 : ((q : Nat) : Int) ≤ (xc : Int) := by have := HXC.out; omega
                      have s2 : ((q : Nat) : Int) ≤ (S.length : Int) := by omega
                      have s3 : (S.length : Int) ≤ (xc : Int) := by have := HXC.out; omega
                      have s4 : ((q : Nat) : Int) ≤ (yc : Int) := by have := HYC.out; omega
                      have s5 : (S.length : Int) ≤ (yc : Int) := by have := HYC.out; omega
                      have HS9 : Hid (S.length ≤ 20000) := by show _ ≤ _; have := HSL.out; omega
                      obtain ⟨W0, hW0⟩ : ∃ W, W = wr.drew := ⟨_, rfl⟩
                      rw [← hW0] at HBE HP0 HP1
                      have HKT : Hid (∀ W, Below w2.heap.size w2 W → PartV W (.slice (some ⟨kg, 0, none⟩) q xc) (((S.map (·.1)).take q).map Value.string)) := fun W hW => part_front (f := Value.string) (l := S.map (·.1)) (fun i x hx => (HX2.out.keep hW).cells hx) (by rw [List.length_map]; exact hq)
                      have HKD : Hid (∀ W, Below w2.heap.size w2 W → PartV W (.slice (some ⟨kg, q, none⟩) (S.length - q) (xc - q)) (((S.map (·.1)).drop q).map Value.string)) := fun W hW => part_back (f := Value.string) (l := S.map (·.1)) (fun i x hx => (HX2.out.keep hW).cells hx) (by rw [List.length_map])
                      have HWT : Hid (∀ W, Below w2.heap.size w2 W → PartV W (.slice (some ⟨wg, 0, none⟩) q yc) (((S.map (·.2)).take q).map (Value.int .i64))) := fun W hW => part_front (f := Value.int .i64) (l := S.map (·.2)) (fun i x hx => (HY2.out.keep hW).cells hx) (by rw [List.length_map]; exact hq)
                      have HWD : Hid (∀ W, Below w2.heap.size w2 W → PartV W (.slice (some ⟨wg, q, none⟩) (S.length - q) (yc - q)) (((S.map (·.2)).drop q).map (Value.int .i64))) := fun W hW => part_back (f := Value.int .i64) (l := S.map (·.2)) (fun i x hx => (HY2.out.keep hW).cells hx) (by rw [List.length_map])
                      have HL1 : Hid (((S.map (·.1)).take q).length ≤ 20000 ∧ ((S.map (·.1)).drop q).length ≤ 20000 ∧ ((S.map (·.2)).take q).length ≤ 20000 ∧ ((S.map (·.2)).drop q).length ≤ 20000) := by
                        have := HS9.out
                        refine ⟨?_, ?_, ?_, ?_⟩ <;> simp only [List.length_take, List.length_drop, List.length_map] <;> omega
                      have HP0A : Hid (∀ W, Below w2.heap.size w2 W → W.cell? ⟨b, 0, none⟩ = some (.slice (some ⟨g, 0, none⟩) l.length c) ∧ W.cell? ⟨g, j * 3, none⟩ = some (.string zk)) := fun W hW => ⟨(hW.cell (p := ⟨b, 0, none⟩) (lt_of_cell HPA.out)).trans HPA.out, (hW.cell (p := ⟨g, j * 3, none⟩) (lt_of_cell HPB.out)).trans HPB.out⟩
                      rw [← hW0]
                      clear hW0
                      have HM1 : Hid ((S.take q ++ (zk, gw) :: S.drop q).map (·.1) = (S.map (·.1)).take q ++ zk :: (S.map (·.1)).drop q) := by show _ = _; rw [List.map_append, List.map_cons, List.map_take, List.map_drop]
                      have HM2 : Hid ((S.take q ++ (zk, gw) :: S.drop q).map (·.2) = (S.map (·.2)).take q ++ gw :: (S.map (·.2)).drop q) := by show _ = _; rw [List.map_append, List.map_cons, List.map_take, List.map_drop]
                      generalize ((S.map (·.1)).take q) = KT at *
                      generalize ((S.map (·.1)).drop q) = KD at *
                      generalize ((S.map (·.2)).take q) = NT at *
                      generalize ((S.map (·.2)).drop q) = ND at *
                      go_wp2_with (at_builtin; refine wp_keys_part _ rfl _ _ rfl w2.heap.size (.slice none 0 0) (.slice (some ⟨kg, 0, none⟩) q xc) [] KT rfl (Ks.nil _ _) rfl (HKT.out _ HBE.out) (by have := HL1.out; simp; omega) HBE.out.size ?_)
                      intro v1 W1 hk hg
                      have HB1 : Hid (Below w2.heap.size w2 W1) := HBE.out.grown hg HBE.out.size (fun k hk => by cases hk)
                      have HK1 : Hid (Ks W1 w2.heap.size v1 KT) := hk
                      clear hk hg
                      obtain ⟨z0, z1⟩ := HP0A.out W1 HB1.out
                      have HBX : Hid (∀ o, Below w2.heap.size w2 (W1.alloc o)) := fun o => HB1.out.alloc HB1.out.size o
                      have HKX : Hid (∀ o, Ks (W1.alloc o) w2.heap.size v1 KT) := fun o => HK1.out.alloc o
                      go_wp2_with (at_builtin; refine wp_keys_push _ rfl _ _ rfl w2.heap.size v1 KT rfl (HKX.out _) ⟨W1.heap.size, 0, none⟩ 1 1 [zk] rfl rfl ?c1 (by have := HL1.out; omega) (HBX.out _).size ?_)
                      case c1 =>
                        intro i u hu
                        match i, hu with
                        | 0, hu =>
                          simp only [List.getElem?_cons_zero, Option.some.injEq] at hu
                          subst hu
                          exact boxed0 _ _ _ _ 0 _ rfl
                      intro v2 W2 hk hg _
                      have HB2' : Hid (Below w2.heap.size w2 W2) := (HBX.out _).grown hg (HBX.out _).size (fun k hk => HK1.out.own_block k hk)
                      have HK2 : Hid (Ks W2 w2.heap.size v2 (KT ++ [zk])) := hk
                      clear hk hg z0 z1 HBX HKX HK1 HB1
                      go_wp2_with (at_builtin; refine wp_keys_part _ rfl _ _ rfl w2.heap.size v2 (.slice (some ⟨kg, q, none⟩) (S.length - q) (xc - q)) (KT ++ [zk]) KD rfl HK2.out rfl (HKD.out _ HB2'.out) (by have := HL1.out; simp; omega) HB2'.out.size ?_)
                      intro v3 W3 hk hg
                      have HB3 : Hid (Below w2.heap.size w2 W3) := HB2'.out.grown hg HB2'.out.size (fun k hk => HK2.out.own_block k hk)
                      have HK3 : Hid (Ks W3 w2.heap.size v3 (KT ++ zk :: KD)) := hk
                      clear hk hg HK2 HB2'
                      go_wp2_with (at_builtin; refine wp_ints_part _ rfl _ _ rfl w2.heap.size (.slice none 0 0) (.slice (some ⟨wg, 0, none⟩) q yc) [] NT rfl (Is.nil _ _) rfl (HWT.out _ HB3.out) (by have := HL1.out; simp; omega) HB3.out.size ?_)
                      intro v4 W4 hk hg
                      have HB4 : Hid (Below w2.heap.size w2 W4) := HB3.out.grown hg HB3.out.size (fun k hk => by cases hk)
                      have HK4 : Hid (Ks W4 w2.heap.size v3 (KT ++ zk :: KD)) := HK3.out.chg (S := []) (Chg.grown hg (fun k hk => by cases hk)) (by simp)
                      have HI4 : Hid (Is W4 w2.heap.size v4 NT) := hk
                      clear hk hg HK3 HB3
                      have HBX : Hid (∀ o, Below w2.heap.size w2 (W4.alloc o)) := fun o => HB4.out.alloc HB4.out.size o
                      go_wp2_with (at_builtin; refine wp_ints_part _ rfl _ _ rfl w2.heap.size v4 (.slice (some ⟨W4.heap.size, 0, none⟩) 1 1) NT [gw] rfl (HI4.out.alloc _) rfl (part_one W4 _ _) (by have := HL1.out; simp; omega) (HBX.out _).size ?_)
                      intro v5 W5 hk hg
                      have HB5 : Hid (Below w2.heap.size w2 W5) := (HBX.out _).grown hg (HBX.out _).size (fun k hk => HI4.out.own_block k hk)
                      have HK5 : Hid (Ks W5 w2.heap.size v3 (KT ++ zk :: KD)) := Ks.apart (HK4.out.alloc _) (HI4.out.alloc _) hg
                      have HI5 : Hid (Is W5 w2.heap.size v5 (NT ++ [gw])) := hk
                      clear hk hg HK4 HB4 HBX HI4
                      go_wp2_with (at_builtin; refine wp_ints_part _ rfl _ _ rfl w2.heap.size v5 (.slice (some ⟨wg, q, none⟩) (S.length - q) (yc - q)) (NT ++ [gw]) ND rfl HI5.out rfl (HWD.out _ HB5.out) (by have := HL1.out; simp; omega) HB5.out.size ?_)
                      intro v6 W6 hk hg
                      have HB6 : Hid (Below w2.heap.size w2 W6) := HB5.out.grown hg HB5.out.size (fun k hk => HI5.out.own_block k hk)
                      have HK6 : Hid (Ks W6 w.heap.size v3 (KT ++ zk :: KD)) := (Ks.apart HK5.out HI5.out hg).low HB2.out.size
                      have HI6 : Hid (Is W6 w.heap.size v6 (NT ++ gw :: ND)) := is_low hk HB2.out.size
                      clear hk hg HK5 HB5 HI5
                      go_wp2
                      go_roundw
                      case rel => exact ⟨_, _, j + 1, by omega, rfl, rfl, by go_num, by rw [HSN.out, HM1.out]; exact HK6.out, by rw [HSN.out, HM2.out]; exact HI6.out, fun e => (by rw [HSN.out] at e; simp at e), HB2.out.trans (HB6.out.mono HB2.out.size)⟩
                      case measure => simp [intOf]; omega
                    · skip
                      have f1 : ¬ xc - q = 0 := by omega
                      have f3 : ¬ xc ≤ q := by omega
                      obtain rfl : q = yc := by omega
                      have s0 : (0 : Int) ≤ ((q : Nat) : Int) := by omega
                      have s1 : ((q : Nat) : Int) ≤ (xc : Int) := by have := HXC.out; omega
                      have s2 : ((q : Nat) : Int) ≤ (S.length : Int) := by omega
                      have s3 : (S.length : Int) ≤ (xc : Int) := by have := HXC.out; omega
                      have s4 : ((q : Nat) : Int) ≤ ((q : Nat) : Int) := by have := HYC.out; omega
                      have s5 : (S.length : Int) ≤ ((q : Nat) : Int) := by have := HYC.out; omega
                      have HS9 : Hid (S.length ≤ 20000) := by show _ ≤ _; have := HSL.out; omega
                      obtain ⟨W0, hW0⟩ : ∃ W, W = wr.drew := ⟨_, rfl⟩
                      rw [← hW0] at HBE HP0 HP1
                      have HKT : Hid (∀ W, Below w2.heap.size w2 W → PartV W (.slice (some ⟨kg, 0, none⟩) q xc) (((S.map (·.1)).take q).map Value.string)) := fun W hW => part_front (f := Value.string) (l := S.map (·.1)) (fun i x hx => (HX2.out.keep hW).cells hx) (by rw [List.length_map]; exact hq)
                      have HKD : Hid (∀ W, Below w2.heap.size w2 W → PartV W (.slice (some ⟨kg, q, none⟩) (S.length - q) (xc - q)) (((S.map (·.1)).drop q).map Value.string)) := fun W hW => part_back (f := Value.string) (l := S.map (·.1)) (fun i x hx => (HX2.out.keep hW).cells hx) (by rw [List.length_map])
                      have HWT : Hid (∀ W, Below w2.heap.size w2 W → PartV W (.slice (some ⟨wg, 0, none⟩) q q) (((S.map (·.2)).take q).map (Value.int .i64))) := fun W hW => part_front (f := Value.int .i64) (l := S.map (·.2)) (fun i x hx => (HY2.out.keep hW).cells hx) (by rw [List.length_map]; exact hq)
                      have HWD : Hid (∀ W, Below w2.heap.size w2 W → PartV W (.slice (some ⟨wg, 0, none⟩) (S.length - q) 0) (((S.map (·.2)).drop q).map (Value.int .i64))) := fun W _ => part_none (by rw [List.length_map, List.length_drop, List.length_map]) (by have := HYC.out; omega)
                      have HL1 : Hid (((S.map (·.1)).take q).length ≤ 20000 ∧ ((S.map (·.1)).drop q).length ≤ 20000 ∧ ((S.map (·.2)).take q).length ≤ 20000 ∧ ((S.map (·.2)).drop q).length ≤ 20000) := by
                        have := HS9.out
                        refine ⟨?_, ?_, ?_, ?_⟩ <;> simp only [List.length_take, List.length_drop, List.length_map] <;> omega
                      have HP0A : Hid (∀ W, Below w2.heap.size w2 W → W.cell? ⟨b, 0, none⟩ = some (.slice (some ⟨g, 0, none⟩) l.length c) ∧ W.cell? ⟨g, j * 3, none⟩ = some (.string zk)) := fun W hW => ⟨(hW.cell (p := ⟨b, 0, none⟩) (lt_of_cell HPA.out)).trans HPA.out, (hW.cell (p := ⟨g, j * 3, none⟩) (lt_of_cell HPB.out)).trans HPB.out⟩
                      rw [← hW0]
                      clear hW0
                      have HM1 : Hid ((S.take q ++ (zk, gw) :: S.drop q).map (·.1) = (S.map (·.1)).take q ++ zk :: (S.map (·.1)).drop q) := by show _ = _; rw [List.map_append, List.map_cons, List.map_take, List.map_drop]
                      have HM2 : Hid ((S.take q ++ (zk, gw) :: S.drop q).map (·.2) = (S.map (·.2)).take q ++ gw :: (S.map (·.2)).drop q) := by show _ = _; rw [List.map_append, List.map_cons, List.map_take, List.map_drop]
                      generalize ((S.map (·.1)).take q) = KT at *
                      generalize ((S.map (·.1)).drop q) = KD at *
                      generalize ((S.map (·.2)).take q) = NT at *
                      generalize ((S.map (·.2)).drop q) = ND at *
                      go_wp2_with (at_builtin; refine wp_keys_part _ rfl _ _ rfl w2.heap.size (.slice none 0 0) (.slice (some ⟨kg, 0, none⟩) q xc) [] KT rfl (Ks.nil _ _) rfl (HKT.out _ HBE.out) (by have := HL1.out; simp; omega) HBE.out.size ?_)
                      intro v1 W1 hk hg
                      have HB1 : Hid (Below w2.heap.size w2 W1) := HBE.out.grown hg HBE.out.size (fun k hk => by cases hk)
                      have HK1 : Hid (Ks W1 w2.heap.size v1 KT) := hk
                      clear hk hg
                      obtain ⟨z0, z1⟩ := HP0A.out W1 HB1.out
                      have HBX : Hid (∀ o, Below w2.heap.size w2 (W1.alloc o)) := fun o => HB1.out.alloc HB1.out.size o
                      have HKX : Hid (∀ o, Ks (W1.alloc o) w2.heap.size v1 KT) := fun o => HK1.out.alloc o
                      go_wp2_with (at_builtin; refine wp_keys_push _ rfl _ _ rfl w2.heap.size v1 KT rfl (HKX.out _) ⟨W1.heap.size, 0, none⟩ 1 1 [zk] rfl rfl ?c1 (by have := HL1.out; omega) (HBX.out _).size ?_)
                      case c1 =>
                        intro i u hu
                        match i, hu with
                        | 0, hu =>
                          simp only [List.getElem?_cons_zero, Option.some.injEq] at hu
                          subst hu
                          exact boxed0 _ _ _ _ 0 _ rfl
                      intro v2 W2 hk hg _
                      have HB2' : Hid (Below w2.heap.size w2 W2) := (HBX.out _).grown hg (HBX.out _).size (fun k hk => HK1.out.own_block k hk)
                      have HK2 : Hid (Ks W2 w2.heap.size v2 (KT ++ [zk])) := hk
                      clear hk hg z0 z1 HBX HKX HK1 HB1
                      go_wp2_with (at_builtin; refine wp_keys_part _ rfl _ _ rfl w2.heap.size v2 (.slice (some ⟨kg, q, none⟩) (S.length - q) (xc - q)) (KT ++ [zk]) KD rfl HK2.out rfl (HKD.out _ HB2'.out) (by have := HL1.out; simp; omega) HB2'.out.size ?_)
                      intro v3 W3 hk hg
                      have HB3 : Hid (Below w2.heap.size w2 W3) := HB2'.out.grown hg HB2'.out.size (fun k hk => HK2.out.own_block k hk)
                      have HK3 : Hid (Ks W3 w2.heap.size v3 (KT ++ zk :: KD)) := hk
                      clear hk hg HK2 HB2'
                      go_wp2_with (at_builtin; refine wp_ints_part _ rfl _ _ rfl w2.heap.size (.slice none 0 0) (.slice (some ⟨wg, 0, none⟩) q q) [] NT rfl (Is.nil _ _) rfl (HWT.out _ HB3.out) (by have := HL1.out; simp; omega) HB3.out.size ?_)
                      intro v4 W4 hk hg
                      have HB4 : Hid (Below w2.heap.size w2 W4) := HB3.out.grown hg HB3.out.size (fun k hk => by cases hk)
                      have HK4 : Hid (Ks W4 w2.heap.size v3 (KT ++ zk :: KD)) := HK3.out.chg (S := []) (Chg.grown hg (fun k hk => by cases hk)) (by simp)
                      have HI4 : Hid (Is W4 w2.heap.size v4 NT) := hk
                      clear hk hg HK3 HB3
                      have HBX : Hid (∀ o, Below w2.heap.size w2 (W4.alloc o)) := fun o => HB4.out.alloc HB4.out.size o
                      go_wp2_with (at_builtin; refine wp_ints_part _ rfl _ _ rfl w2.heap.size v4 (.slice (some ⟨W4.heap.size, 0, none⟩) 1 1) NT [gw] rfl (HI4.out.alloc _) rfl (part_one W4 _ _) (by have := HL1.out; simp; omega) (HBX.out _).size ?_)
                      intro v5 W5 hk hg
                      have HB5 : Hid (Below w2.heap.size w2 W5) := (HBX.out _).grown hg (HBX.out _).size (fun k hk => HI4.out.own_block k hk)
                      have HK5 : Hid (Ks W5 w2.heap.size v3 (KT ++ zk :: KD)) := Ks.apart (HK4.out.alloc _) (HI4.out.alloc _) hg
                      have HI5 : Hid (Is W5 w2.heap.size v5 (NT ++ [gw])) := hk
                      clear hk hg HK4 HB4 HBX HI4
                      go_wp2_with (at_builtin; refine wp_ints_part _ rfl _ _ rfl w2.heap.size v5 (.slice (some ⟨wg, 0, none⟩) (S.length - q) 0) (NT ++ [gw]) ND rfl HI5.out rfl (HWD.out _ HB5.out) (by have := HL1.out; simp; omega) HB5.out.size ?_)
                      intro v6 W6 hk hg
                      have HB6 : Hid (Below w2.heap.size w2 W6) := HB5.out.grown hg HB5.out.size (fun k hk => HI5.out.own_block k hk)
                      have HK6 : Hid (Ks W6 w.heap.size v3 (KT ++ zk :: KD)) := (Ks.apart HK5.out HI5.out hg).low HB2.out.size
                      have HI6 : Hid (Is W6 w.heap.size v6 (NT ++ gw :: ND)) := is_low hk HB2.out.size
                      clear hk hg HK5 HB5 HI5
                      go_wp2
                      go_roundw
                      case rel => exact ⟨_, _, j + 1, by omega, rfl, rfl, by go_num, by rw [HSN.out, HM1.out]; exact HK6.out, by rw [HSN.out, HM2.out]; exact HI6.out, fun e => (by rw [HSN.out] at e; simp at e), HB2.out.trans (HB6.out.mono HB2.out.size)⟩
                      case measure => simp [intOf]; omega
                  · rcases Nat.lt_or_ge q yc with e2 | e2
                    · skip
                      obtain rfl : q = xc := by omega
                      have f2 : ¬ yc - q = 0 := by omega
                      have f4 : ¬ yc ≤ q := by omega
                      have s0 : (0 : Int) ≤ ((q : Nat) : Int) := by omega
                      have s1 : ((q : Nat) : Int) ≤ ((q : Nat) : Int) := by have := HXC.out; omega
                      have s2 : ((q : Nat) : Int) ≤ (S.length : Int) := by omega
                      have s3 : (S.length : Int) ≤ ((q : Nat) : Int) := by have := HXC.out; omega
                      have s4 : ((q : Nat) : Int) ≤ (yc : Int) := by have := HYC.out; omega
                      have s5 : (S.length : Int) ≤ (yc : Int) := by have := HYC.out; omega
                      have HS9 : Hid (S.length ≤ 20000) := by show _ ≤ _; have := HSL.out; omega
                      obtain ⟨W0, hW0⟩ : ∃ W, W = wr.drew := ⟨_, rfl⟩
                      rw [← hW0] at HBE HP0 HP1
                      have HKT : Hid (∀ W, Below w2.heap.size w2 W → PartV W (.slice (some ⟨kg, 0, none⟩) q q) (((S.map (·.1)).take q).map Value.string)) := fun W hW => part_front (f := Value.string) (l := S.map (·.1)) (fun i x hx => (HX2.out.keep hW).cells hx) (by rw [List.length_map]; exact hq)
                      have HKD : Hid (∀ W, Below w2.heap.size w2 W → PartV W (.slice (some ⟨kg, 0, none⟩) (S.length - q) 0) (((S.map (·.1)).drop q).map Value.string)) := fun W _ => part_none (by rw [List.length_map, List.length_drop, List.length_map]) (by have := HXC.out; omega)
                      have HWT : Hid (∀ W, Below w2.heap.size w2 W → PartV W (.slice (some ⟨wg, 0, none⟩) q yc) (((S.map (·.2)).take q).map (Value.int .i64))) := fun W hW => part_front (f := Value.int .i64) (l := S.map (·.2)) (fun i x hx => (HY2.out.keep hW).cells hx) (by rw [List.length_map]; exact hq)
                      have HWD : Hid (∀ W, Below w2.heap.size w2 W → PartV W (.slice (some ⟨wg, q, none⟩) (S.length - q) (yc - q)) (((S.map (·.2)).drop q).map (Value.int .i64))) := fun W hW => part_back (f := Value.int .i64) (l := S.map (·.2)) (fun i x hx => (HY2.out.keep hW).cells hx) (by rw [List.length_map])
                      have HL1 : Hid (((S.map (·.1)).take q).length ≤ 20000 ∧ ((S.map (·.1)).drop q).length ≤ 20000 ∧ ((S.map (·.2)).take q).length ≤ 20000 ∧ ((S.map (·.2)).drop q).length ≤ 20000) := by
                        have := HS9.out
                        refine ⟨?_, ?_, ?_, ?_⟩ <;> simp only [List.length_take, List.length_drop, List.length_map] <;> omega
                      have HP0A : Hid (∀ W, Below w2.heap.size w2 W → W.cell? ⟨b, 0, none⟩ = some (.slice (some ⟨g, 0, none⟩) l.length c) ∧ W.cell? ⟨g, j * 3, none⟩ = some (.string zk)) := fun W hW => ⟨(hW.cell (p := ⟨b, 0, none⟩) (lt_of_cell HPA.out)).trans HPA.out, (hW.cell (p := ⟨g, j * 3, none⟩) (lt_of_cell HPB.out)).trans HPB.out⟩
                      rw [← hW0]
                      clear hW0
                      have HM1 : Hid ((S.take q ++ (zk, gw) :: S.drop q).map (·.1) = (S.map (·.1)).take q ++ zk :: (S.map (·.1)).drop q) := by show _ = _; rw [List.map_append, List.map_cons, List.map_take, List.map_drop]
                      have HM2 : Hid ((S.take q ++ (zk, gw) :: S.drop q).map (·.2) = (S.map (·.2)).take q ++ gw :: (S.map (·.2)).drop q) := by show _ = _; rw [List.map_append, List.map_cons, List.map_take, List.map_drop]
                      generalize ((S.map (·.1)).take q) = KT at *
                      generalize ((S.map (·.1)).drop q) = KD at *
                      generalize ((S.map (·.2)).take q) = NT at *
                      generalize ((S.map (·.2)).drop q) = ND at *
                      go_wp2_with (at_builtin; refine wp_keys_part _ rfl _ _ rfl w2.heap.size (.slice none 0 0) (.slice (some ⟨kg, 0, none⟩) q q) [] KT rfl (Ks.nil _ _) rfl (HKT.out _ HBE.out) (by have := HL1.out; simp; omega) HBE.out.size ?_)
                      intro v1 W1 hk hg
                      have HB1 : Hid (Below w2.heap.size w2 W1) := HBE.out.grown hg HBE.out.size (fun k hk => by cases hk)
                      have HK1 : Hid (Ks W1 w2.heap.size v1 KT) := hk
                      clear hk hg
                      obtain ⟨z0, z1⟩ := HP0A.out W1 HB1.out
                      have HBX : Hid (∀ o, Below w2.heap.size w2 (W1.alloc o)) := fun o => HB1.out.alloc HB1.out.size o
                      have HKX : Hid (∀ o, Ks (W1.alloc o) w2.heap.size v1 KT) := fun o => HK1.out.alloc o
                      go_wp2_with (at_builtin; refine wp_keys_push _ rfl _ _ rfl w2.heap.size v1 KT rfl (HKX.out _) ⟨W1.heap.size, 0, none⟩ 1 1 [zk] rfl rfl ?c1 (by have := HL1.out; omega) (HBX.out _).size ?_)
                      case c1 =>
                        intro i u hu
                        match i, hu with
                        | 0, hu =>
                          simp only [List.getElem?_cons_zero, Option.some.injEq] at hu
                          subst hu
                          exact boxed0 _ _ _ _ 0 _ rfl
                      intro v2 W2 hk hg _
                      have HB2' : Hid (Below w2.heap.size w2 W2) := (HBX.out _).grown hg (HBX.out _).size (fun k hk => HK1.out.own_block k hk)
                      have HK2 : Hid (Ks W2 w2.heap.size v2 (KT ++ [zk])) := hk
                      clear hk hg z0 z1 HBX HKX HK1 HB1
                      go_wp2_with (at_builtin; refine wp_keys_part _ rfl _ _ rfl w2.heap.size v2 (.slice (some ⟨kg, 0, none⟩) (S.length - q) 0) (KT ++ [zk]) KD rfl HK2.out rfl (HKD.out _ HB2'.out) (by have := HL1.out; simp; omega) HB2'.out.size ?_)
                      intro v3 W3 hk hg
                      have HB3 : Hid (Below w2.heap.size w2 W3) := HB2'.out.grown hg HB2'.out.size (fun k hk => HK2.out.own_block k hk)
                      have HK3 : Hid (Ks W3 w2.heap.size v3 (KT ++ zk :: KD)) := hk
                      clear hk hg HK2 HB2'
                      go_wp2_with (at_builtin; refine wp_ints_part _ rfl _ _ rfl w2.heap.size (.slice none 0 0) (.slice (some ⟨wg, 0, none⟩) q yc) [] NT rfl (Is.nil _ _) rfl (HWT.out _ HB3.out) (by have := HL1.out; simp; omega) HB3.out.size ?_)
                      intro v4 W4 hk hg
                      have HB4 : Hid (Below w2.heap.size w2 W4) := HB3.out.grown hg HB3.out.size (fun k hk => by cases hk)
                      have HK4 : Hid (Ks W4 w2.heap.size v3 (KT ++ zk :: KD)) := HK3.out.chg (S := []) (Chg.grown hg (fun k hk => by cases hk)) (by simp)
                      have HI4 : Hid (Is W4 w2.heap.size v4 NT) := hk
                      clear hk hg HK3 HB3
                      have HBX : Hid (∀ o, Below w2.heap.size w2 (W4.alloc o)) := fun o => HB4.out.alloc HB4.out.size o
                      go_wp2_with (at_builtin; refine wp_ints_part _ rfl _ _ rfl w2.heap.size v4 (.slice (some ⟨W4.heap.size, 0, none⟩) 1 1) NT [gw] rfl (HI4.out.alloc _) rfl (part_one W4 _ _) (by have := HL1.out; simp; omega) (HBX.out _).size ?_)
                      intro v5 W5 hk hg
                      have HB5 : Hid (Below w2.heap.size w2 W5) := (HBX.out _).grown hg (HBX.out _).size (fun k hk => HI4.out.own_block k hk)
                      have HK5 : Hid (Ks W5 w2.heap.size v3 (KT ++ zk :: KD)) := Ks.apart (HK4.out.alloc _) (HI4.out.alloc _) hg
                      have HI5 : Hid (Is W5 w2.heap.size v5 (NT ++ [gw])) := hk
                      clear hk hg HK4 HB4 HBX HI4
                      go_wp2_with (at_builtin; refine wp_ints_part _ rfl _ _ rfl w2.heap.size v5 (.slice (some ⟨wg, q, none⟩) (S.length - q) (yc - q)) (NT ++ [gw]) ND rfl HI5.out rfl (HWD.out _ HB5.out) (by have := HL1.out; simp; omega) HB5.out.size ?_)
                      intro v6 W6 hk hg
                      have HB6 : Hid (Below w2.heap.size w2 W6) := HB5.out.grown hg HB5.out.size (fun k hk => HI5.out.own_block k hk)
                      have HK6 : Hid (Ks W6 w.heap.size v3 (KT ++ zk :: KD)) := (Ks.apart HK5.out HI5.out hg).low HB2.out.size
                      have HI6 : Hid (Is W6 w.heap.size v6 (NT ++ gw :: ND)) := is_low hk HB2.out.size
                      clear hk hg HK5 HB5 HI5
                      go_wp2
                      go_roundw
                      case rel => exact ⟨_, _, j + 1, by omega, rfl, rfl, by go_num, by rw [HSN.out, HM1.out]; exact HK6.out, by rw [HSN.out, HM2.out]; exact HI6.out, fun e => (by rw [HSN.out] at e; simp at e), HB2.out.trans (HB6.out.mono HB2.out.size)⟩
                      case measure => simp [intOf]; omega
                    · skip
                      obtain rfl : q = xc := by omega
                      obtain rfl : q = yc := by omega
                      have s0 : (0 : Int) ≤ ((q : Nat) : Int) := by omega
                      have s1 : ((q : Nat) : Int) ≤ ((q : Nat) : Int) := by have := HXC.out; omega
                      have s2 : ((q : Nat) : Int) ≤ (S.length : Int) := by omega
                      have s3 : (S.length : Int) ≤ ((q : Nat) : Int) := by have := HXC.out; omega
                      have s4 : ((q : Nat) : Int) ≤ ((q : Nat) : Int) := by have := HYC.out; omega
                      have s5 : (S.length : Int) ≤ ((q : Nat) : Int) := by have := HYC.out; omega
                      have HS9 : Hid (S.length ≤ 20000) := by show _ ≤ _; have := HSL.out; omega
                      obtain ⟨W0, hW0⟩ : ∃ W, W = wr.drew := ⟨_, rfl⟩
                      rw [← hW0] at HBE HP0 HP1
                      have HKT : Hid (∀ W, Below w2.heap.size w2 W → PartV W (.slice (some ⟨kg, 0, none⟩) q q) (((S.map (·.1)).take q).map Value.string)) := fun W hW => part_front (f := Value.string) (l := S.map (·.1)) (fun i x hx => (HX2.out.keep hW).cells hx) (by rw [List.length_map]; exact hq)
                      have HKD : Hid (∀ W, Below w2.heap.size w2 W → PartV W (.slice (some ⟨kg, 0, none⟩) (S.length - q) 0) (((S.map (·.1)).drop q).map Value.string)) := fun W _ => part_none (by rw [List.length_map, List.length_drop, List.length_map]) (by have := HXC.out; omega)
                      have HWT : Hid (∀ W, Below w2.heap.size w2 W → PartV W (.slice (some ⟨wg, 0, none⟩) q q) (((S.map (·.2)).take q).map (Value.int .i64))) := fun W hW => part_front (f := Value.int .i64) (l := S.map (·.2)) (fun i x hx => (HY2.out.keep hW).cells hx) (by rw [List.length_map]; exact hq)
                      have HWD : Hid (∀ W, Below w2.heap.size w2 W → PartV W (.slice (some ⟨wg, 0, none⟩) (S.length - q) 0) (((S.map (·.2)).drop q).map (Value.int .i64))) := fun W _ => part_none (by rw [List.length_map, List.length_drop, List.length_map]) (by have := HYC.out; omega)
                      have HL1 : Hid (((S.map (·.1)).take q).length ≤ 20000 ∧ ((S.map (·.1)).drop q).length ≤ 20000 ∧ ((S.map (·.2)).take q).length ≤ 20000 ∧ ((S.map (·.2)).drop q).length ≤ 20000) := by
                        have := HS9.out
                        refine ⟨?_, ?_, ?_, ?_⟩ <;> simp only [List.length_take, List.length_drop, List.length_map] <;> omega
                      have HP0A : Hid (∀ W, Below w2.heap.size w2 W → W.cell? ⟨b, 0, none⟩ = some (.slice (some ⟨g, 0, none⟩) l.length c) ∧ W.cell? ⟨g, j * 3, none⟩ = some (.string zk)) := fun W hW => ⟨(hW.cell (p := ⟨b, 0, none⟩) (lt_of_cell HPA.out)).trans HPA.out, (hW.cell (p := ⟨g, j * 3, none⟩) (lt_of_cell HPB.out)).trans HPB.out⟩
                      rw [← hW0]
                      clear hW0
                      have HM1 : Hid ((S.take q ++ (zk, gw) :: S.drop q).map (·.1) = (S.map (·.1)).take q ++ zk :: (S.map (·.1)).drop q) := by show _ = _; rw [List.map_append, List.map_cons, List.map_take, List.map_drop]
                      have HM2 : Hid ((S.take q ++ (zk, gw) :: S.drop q).map (·.2) = (S.map (·.2)).take q ++ gw :: (S.map (·.2)).drop q) := by show _ = _; rw [List.map_append, List.map_cons, List.map_take, List.map_drop]
                      generalize ((S.map (·.1)).take q) = KT at *
                      generalize ((S.map (·.1)).drop q) = KD at *
                      generalize ((S.map (·.2)).take q) = NT at *
                      generalize ((S.map (·.2)).drop q) = ND at *
                      go_wp2_with (at_builtin; refine wp_keys_part _ rfl _ _ rfl w2.heap.size (.slice none 0 0) (.slice (some ⟨kg, 0, none⟩) q q) [] KT rfl (Ks.nil _ _) rfl (HKT.out _ HBE.out) (by have := HL1.out; simp; omega) HBE.out.size ?_)
                      intro v1 W1 hk hg
                      have HB1 : Hid (Below w2.heap.size w2 W1) := HBE.out.grown hg HBE.out.size (fun k hk => by cases hk)
                      have HK1 : Hid (Ks W1 w2.heap.size v1 KT) := hk
                      clear hk hg
                      obtain ⟨z0, z1⟩ := HP0A.out W1 HB1.out
                      have HBX : Hid (∀ o, Below w2.heap.size w2 (W1.alloc o)) := fun o => HB1.out.alloc HB1.out.size o
                      have HKX : Hid (∀ o, Ks (W1.alloc o) w2.heap.size v1 KT) := fun o => HK1.out.alloc o
                      go_wp2_with (at_builtin; refine wp_keys_push _ rfl _ _ rfl w2.heap.size v1 KT rfl (HKX.out _) ⟨W1.heap.size, 0, none⟩ 1 1 [zk] rfl rfl ?c1 (by have := HL1.out; omega) (HBX.out _).size ?_)
                      case c1 =>
                        intro i u hu
                        match i, hu with
                        | 0, hu =>
                          simp only [List.getElem?_cons_zero, Option.some.injEq] at hu
                          subst hu
                          exact boxed0 _ _ _ _ 0 _ rfl
                      intro v2 W2 hk hg _
                      have HB2' : Hid (Below w2.heap.size w2 W2) := (HBX.out _).grown hg (HBX.out _).size (fun k hk => HK1.out.own_block k hk)
                      have HK2 : Hid (Ks W2 w2.heap.size v2 (KT ++ [zk])) := hk
                      clear hk hg z0 z1 HBX HKX HK1 HB1
                      go_wp2_with (at_builtin; refine wp_keys_part _ rfl _ _ rfl w2.heap.size v2 (.slice (some ⟨kg, 0, none⟩) (S.length - q) 0) (KT ++ [zk]) KD rfl HK2.out rfl (HKD.out _ HB2'.out) (by have := HL1.out; simp; omega) HB2'.out.size ?_)
                      intro v3 W3 hk hg
                      have HB3 : Hid (Below w2.heap.size w2 W3) := HB2'.out.grown hg HB2'.out.size (fun k hk => HK2.out.own_block k hk)
                      have HK3 : Hid (Ks W3 w2.heap.size v3 (KT ++ zk :: KD)) := hk
                      clear hk hg HK2 HB2'
                      go_wp2_with (at_builtin; refine wp_ints_part _ rfl _ _ rfl w2.heap.size (.slice none 0 0) (.slice (some ⟨wg, 0, none⟩) q q) [] NT rfl (Is.nil _ _) rfl (HWT.out _ HB3.out) (by have := HL1.out; simp; omega) HB3.out.size ?_)
                      intro v4 W4 hk hg
                      have HB4 : Hid (Below w2.heap.size w2 W4) := HB3.out.grown hg HB3.out.size (fun k hk => by cases hk)
                      have HK4 : Hid (Ks W4 w2.heap.size v3 (KT ++ zk :: KD)) := HK3.out.chg (S := []) (Chg.grown hg (fun k hk => by cases hk)) (by simp)
                      have HI4 : Hid (Is W4 w2.heap.size v4 NT) := hk
                      clear hk hg HK3 HB3
                      have HBX : Hid (∀ o, Below w2.heap.size w2 (W4.alloc o)) := fun o => HB4.out.alloc HB4.out.size o
                      go_wp2_with (at_builtin; refine wp_ints_part _ rfl _ _ rfl w2.heap.size v4 (.slice (some ⟨W4.heap.size, 0, none⟩) 1 1) NT [gw] rfl (HI4.out.alloc _) rfl (part_one W4 _ _) (by have := HL1.out; simp; omega) (HBX.out _).size ?_)
                      intro v5 W5 hk hg
                      have HB5 : Hid (Below w2.heap.size w2 W5) := (HBX.out _).grown hg (HBX.out _).size (fun k hk => HI4.out.own_block k hk)
                      have HK5 : Hid (Ks W5 w2.heap.size v3 (KT ++ zk :: KD)) := Ks.apart (HK4.out.alloc _) (HI4.out.alloc _) hg
                      have HI5 : Hid (Is W5 w2.heap.size v5 (NT ++ [gw])) := hk
                      clear hk hg HK4 HB4 HBX HI4
                      go_wp2_with (at_builtin; refine wp_ints_part _ rfl _ _ rfl w2.heap.size v5 (.slice (some ⟨wg, 0, none⟩) (S.length - q) 0) (NT ++ [gw]) ND rfl HI5.out rfl (HWD.out _ HB5.out) (by have := HL1.out; simp; omega) HB5.out.size ?_)
                      intro v6 W6 hk hg
                      have HB6 : Hid (Below w2.heap.size w2 W6) := HB5.out.grown hg HB5.out.size (fun k hk => HI5.out.own_block k hk)
                      have HK6 : Hid (Ks W6 w.heap.size v3 (KT ++ zk :: KD)) := (Ks.apart HK5.out HI5.out hg).low HB2.out.size
                      have HI6 : Hid (Is W6 w.heap.size v6 (NT ++ gw :: ND)) := is_low hk HB2.out.size
                      clear hk hg HK5 HB5 HI5
                      go_wp2
                      go_roundw
                      case rel => exact ⟨_, _, j + 1, by omega, rfl, rfl, by go_num, by rw [HSN.out, HM1.out]; exact HK6.out, by rw [HSN.out, HM2.out]; exact HI6.out, fun e => (by rw [HSN.out] at e; simp at e), HB2.out.trans (HB6.out.mono HB2.out.size)⟩
                      case measure => simp [intOf]; omega
                · have dg : decide (0 < gw) = false := decide_eq_false hg0
                  have HSN : Hid (SJ l now (j + 1) = S) := by
                    show _ = _
                    rw [HSJ.out, HIT.out, if_neg hg0]
                  clear hg0
                  go_wp2
                  go_roundw
                  case rel => exact ⟨_, _, j + 1, by omega, rfl, rfl, by go_num, by rw [HSN.out]; exact HX2.out.keep HBE.out, by rw [HSN.out]; exact HY2.out.keep HBE.out, fun e => absurd (HSN.out.symm.trans e) HSE.out, HB2.out.trans (HBE.out.mono HB2.out.size)⟩
                  case measure => simp [intOf]; omega
    · have hjl : j = l.length := by omega
      subst hjl
      rw [sj_all] at HX
      have HH : Hid (H = ((sortI (itemsM l now)).take n.toNat).map (·.1)) := by show _ = _; rw [HHOT.out]; rfl
      have hsl : (sortI (itemsM l now)).length ≤ l.length := by rw [(sort_perm _).length_eq]; exact items_len l now
      rw [sj_all] at hxf
      generalize sortI (itemsM l now) = S at *
      rw [List.length_map] at hxf
      subst hxf hyf
      by_cases hn1 : n < (S.length : Int)
      · have d1 : decide (n < (S.length : Int)) = true := decide_eq_true hn1
        by_cases hn0 : n < 0
        · have d2 : decide (n < 0) = true := decide_eq_true hn0
          have HE : Hid (H = []) := by show _ = _; rw [HH.out, show n.toNat = 0 by omega]; rfl
          go_wp2
          go_ret
          exact ⟨.slice xa 0 xc, by simp, ⟨xa, xc, by rw [HE.out]; rfl, by rw [HE.out]; exact Sl.nil⟩, HB.out⟩
        · obtain ⟨m, rfl⟩ : ∃ m : Nat, n = (m : Int) := ⟨n.toNat, by omega⟩
          have hml : m < S.length := by omega
          have d2 : decide ((m : Int) < 0) = false := decide_eq_false (by omega)
          obtain ⟨kg, rfl, hkg, HXC⟩ : ∃ kg, xa = some ⟨kg, 0, none⟩ ∧ kg < wr.heap.size ∧ Hid (S.length ≤ xc) := by
            rcases HX.out.form with ⟨_, hS0⟩ | ⟨kg, kcap, hxf, -, hkg, hkc, -⟩
            · rw [List.map_eq_nil_iff.1 hS0] at hml; simp at hml
            · simp only [Value.slice.injEq] at hxf
              rw [List.length_map] at hkc
              exact ⟨kg, hxf.1, hkg, by obtain ⟨_, _, rfl⟩ := hxf; exact hkc⟩
          have s0 : (0 : Int) ≤ (m : Int) := by omega
          have s1 : (m : Int) ≤ (xc : Int) := by have := HXC.out; omega
          have s2 : m ≤ xc := by have := HXC.out; omega
          have HE : Hid (H = (S.take m).map (·.1)) := by show _ = _; rw [HH.out]; rfl
          have HEL : Hid (H.length = m) := by show _ = _; rw [HE.out, List.length_map, List.length_take]; omega
          clear hn0 hn1
          go_wp2
          go_ret
          refine ⟨.slice (some ⟨kg, 0, none⟩) m xc, by simp, ⟨some ⟨kg, 0, none⟩, xc, by rw [HEL.out], fun _ => ⟨kg, 0, rfl, hkg, fun i x hx => ?_⟩⟩, HB.out⟩
          rw [Nat.zero_add]
          refine HX.out.cells ?_
          rw [HE.out, List.map_take, List.getElem?_take] at hx
          split at hx
          · exact hx
          · cases hx
      · have d1 : decide (n < (S.length : Int)) = false := decide_eq_false hn1
        have HE : Hid (H = S.map (·.1)) := by show _ = _; rw [HH.out, List.take_of_length_le (by omega)]
        clear hn1
        obtain ⟨ga, gc, hv, hs⟩ := HX.out.view
        go_wp2
        go_ret
        refine ⟨.slice xa S.length xc, by simp, ⟨xa, xc, by rw [HE.out, List.length_map], ?_⟩, HB.out⟩
        rw [HE.out]
        simp only [Value.slice.injEq] at hv
        obtain ⟨rfl, _, _⟩ := hv
        exact hs
end Go.Proofs.Ytgdlnifncmiebaa
