/-
  The law's live.
-/
import Derived.Test.YtlkkgboaicjaiaaNodeLm
import Derived.Test.YtlkkgboaicjaiaaNodeP
namespace Go.Proofs.Ytlkkgboaicjaiaa
open Go.RowKit Go.ChangeShapes Go.WideShapes Go.ChangeAt

/-- A node in a block of the call's own, with what lies in its slices. -/
structure Held (w : World) (b : Nat) (ka : Option Addr) (kc : Nat) (va : Option Addr) (vc : Nat) (d : NodeD) : Prop where
  box : Box w b 30 #[.bool d.leaf, .slice ka d.keys.length kc, .slice va d.vals.length vc]
  inn : NodeIn w ka va d
  kc : d.keys.length ≤ kc
  vc : d.vals.length ≤ vc
theorem Held.keep {w w' : World} {b : Nat} {ka : Option Addr} {kc : Nat} {va : Option Addr} {vc : Nat} {d : NodeD} (h : Held w b ka kc va vc d) (hb : Below w.heap.size w w') : Held w' b ka kc va vc d := ⟨h.box.keep hb h.box.lt, h.inn.keep hb, h.kc, h.vc⟩
theorem Held.new {w : World} {ka : Option Addr} {kc : Nat} {va : Option Addr} {vc : Nat} {d : NodeD} (h : NodeIn w ka va d) (h1 : d.keys.length ≤ kc) (h2 : d.vals.length ≤ vc) : Held (w.alloc (.cells #[.bool d.leaf, .slice ka d.keys.length kc, .slice va d.vals.length vc] 30 (0, 0))) w.heap.size ka kc va vc d :=
  ⟨Box.new _ _ _, h.keep ((Below.refl _ _).alloc (Nat.le_refl _) _), h1, h2⟩
theorem dn_small : (∀ s ∈ dN2.keys ++ dN2.vals, s.size ≤ maxLen) ∧ (∀ s ∈ dNx.keys ++ dNx.vals, s.size ≤ maxLen) ∧ (∀ s ∈ dN1.keys ++ dN1.vals, s.size ≤ maxLen) ∧ (∀ s ∈ dNe.keys ++ dNe.vals, s.size ≤ maxLen) := by
  have key : ∀ l : List ByteArray, (∀ s ∈ l, s.size ≤ 1) → ∀ s ∈ l, s.size ≤ maxLen := fun l h s hs => by have := h s hs; unfold maxLen; omega
  exact ⟨key _ (by decide), key _ (by decide), key _ (by decide), key _ (by decide)⟩
theorem chk_last (w : World) (p q : Nat) (hp : Box w p 9 #[.string ⟨#[]⟩]) (hq : Box w q 9 #[.string ⟨#[]⟩]) :
    Calls Try.prog 17 #[.agg #[.bool false, .slice (some ⟨p, 0, none⟩) 1 1, .slice (some ⟨q, 0, none⟩) 1 1]] w fun e w' => e = .returned (.int .i64 1) ∧ Below w.heap.size w w' := by
  have key : ∀ b, Box w b 9 #[.string ⟨#[]⟩] → Sl w Value.string (some ⟨b, 0, none⟩) [⟨#[]⟩] := fun b hb _ => ⟨b, 0, rfl, hb.lt, fun i x hx => by
    cases i with
    | zero => simp at hx; subst hx; exact hb.cell 0 _ rfl
    | succ i => simp at hx⟩
  have := check_any (some ⟨p, 0, none⟩) 1 (some ⟨q, 0, none⟩) 1 dNe w ⟨key p hp, key q hq, by decide, by decide⟩ dn_small.2.2.2
  rw [chk_e] at this
  exact this
theorem fieldN (x y z : Value) (W : World) : (Instr.field 30 (.agg #[x, y, z]) 1).run Try.prog W = .ok y W := by kernel_rfl
set_option maxRecDepth 100000 in
set_option maxHeartbeats 8000000 in
theorem live_any (w : World) : Calls Try.prog 11 #[] w fun e w' => e = .returned (.bool true) ∧ Below w.heap.size w w' := by
  have HV0 : Hid (Value.agg #[.bool true, .slice none 0 0, .slice none 0 0] = nodeV none 0 none 0 ⟨true, [], []⟩) := rfl
  have HS := Lib.hid dn_small
  go_enter Try.func11, Try.ntmps11
  go_wp2_with fail
  rw [HV0.out]
  refine (with_any none 0 none 0 ⟨true, [], []⟩ kB v2 _ ⟨Sl.nil, Sl.nil, Nat.zero_le _, Nat.zero_le _⟩ (fun s hs => by cases hs) (by decide) (by decide)).mono ?_
  rintro e w1 ⟨nv, rfl, ho, hb⟩
  rw [with_1] at ho
  obtain ⟨ka1, kc1, va1, vc1, rfl, hi1, _, _⟩ := ho.view (by decide) (by decide)
  have HI1 := Lib.hid hi1
  have HB1 := Lib.hid hb
  clear ho hi1 hb
  go_wp2_with fail
  refine (with_any ka1 kc1 va1 vc1 dN1 kA v1 _ HI1.out HS.out.2.2.1 (by decide) (by decide)).mono ?_
  rintro e w2 ⟨nv, rfl, ho, hb⟩
  rw [with_2] at ho
  obtain ⟨ka, kc, va, vc, rfl, hi2, hkc, hvc⟩ := ho.view (by decide) (by decide)
  have HD2 := Lib.hid (Held.new hi2 hkc hvc)
  have HA2 : Hid (∀ o, Below w2.heap.size w2 (w2.alloc o)) := fun o => (Below.refl _ _).alloc (Nat.le_refl _) o
  have HB2 := Lib.hid (HB1.out.trans (hb.mono HB1.out.size))
  clear ho hi2 hb hkc hvc HI1 HB1
  have HV2 : Hid (Value.agg #[.bool dN2.leaf, .slice ka dN2.keys.length kc, .slice va dN2.vals.length vc] = nodeV ka kc va vc dN2) := rfl
  have a0 := HD2.out.box.cell 0 _ rfl
  have a1 := HD2.out.box.cell 1 _ rfl
  have a2 := HD2.out.box.cell 2 _ rfl
  rw [← HV2.out]
  obtain ⟨b1, hb1⟩ : ∃ b1, b1 = w2.heap.size := ⟨_, rfl⟩
  have HLB : Hid (w.heap.size ≤ b1) := by rw [hb1]; exact HB2.out.size
  go_wp2_with fail
  rw [HV2.out]
  generalize hw3 : w2.alloc (.cells #[.bool dN2.leaf, .slice ka dN2.keys.length kc, .slice va dN2.vals.length vc] 30 (0, 0)) = w3
  have HD3 := HD2
  have HB3 := Lib.hid (HB2.out.trans ((HA2.out (.cells #[.bool dN2.leaf, .slice ka dN2.keys.length kc, .slice va dN2.vals.length vc] 30 (0, 0))).mono HB2.out.size))
  rw [hw3, ← hb1] at HD3
  rw [hw3] at HB3
  rw [← hb1]
  clear hw3 hb1 HD2 HA2 HB2 a0 a1 a2
  refine (encode_any ka kc va vc dN2 _ HD3.out.inn HS.out.1).mono ?_
  rintro e w4 ⟨rfl, hb⟩
  rw [enc_2, chk_2]
  have HD4 := Lib.hid (HD3.out.keep hb)
  have HB4 := Lib.hid (HB3.out.trans (hb.mono HB3.out.size))
  clear hb HD3 HB3
  obtain ⟨S0, hS0⟩ : ∃ S0, S0 = sN := ⟨_, rfl⟩
  rw [← hS0]
  have HDC : Hid (decP S0 = (dN2, 0)) := by rw [hS0]; exact dec_2
  have HSL : Hid ((S0.toList == [76, 2, 1, 0, 97, 1, 49, 1, 0, 98, 1, 50]) = true) := by rw [hS0]; exact sN_list
  have HSZ : Hid (S0.size ≤ 100000) := by show S0.size ≤ 100000; rw [hS0]; decide
  clear hS0
  go_wp2_with fail
  refine (decode_any S0 _ HSZ.out).mono ?_
  rintro e w5 ⟨nv, rfl, ho, hb⟩
  rw [HDC.out] at ho ⊢
  obtain ⟨ka4, kc4, va4, vc4, rfl, hi4, hkc4, hvc4⟩ := ho.view (by decide) (by decide)
  have HM5 := Lib.hid (Held.new hi4 hkc4 hvc4)
  have HA5 : Hid (∀ o, Below w5.heap.size w5 (w5.alloc o)) := fun o => (Below.refl _ _).alloc (Nat.le_refl _) o
  have HD5 := Lib.hid (HD4.out.keep hb)
  have HB5 := Lib.hid (HB4.out.trans (hb.mono HB4.out.size))
  clear ho hi4 hkc4 hvc4 hb HD4 HB4
  have HV4 : Hid (Value.agg #[.bool dN2.leaf, .slice ka4 dN2.keys.length kc4, .slice va4 dN2.vals.length vc4] = nodeV ka4 kc4 va4 vc4 dN2) := rfl
  rw [← HV4.out]
  obtain ⟨b4, hb4⟩ : ∃ b4, b4 = w5.heap.size := ⟨_, rfl⟩
  have a0 : ∀ o, (w5.alloc o).cell? ⟨b1, 0, none⟩ = some (.bool dN2.leaf) := fun o => (HD5.out.box.alloc o).cell 0 _ rfl
  have a1 : ∀ o, (w5.alloc o).cell? ⟨b1, 1, none⟩ = some (.slice ka dN2.keys.length kc) := fun o => (HD5.out.box.alloc o).cell 1 _ rfl
  have a2 : ∀ o, (w5.alloc o).cell? ⟨b1, 2, none⟩ = some (.slice va dN2.vals.length vc) := fun o => (HD5.out.box.alloc o).cell 2 _ rfl
  go_wp2_with fail
  rw [HV2.out]
  generalize hw6 : w5.alloc (.cells #[.bool dN2.leaf, .slice ka4 dN2.keys.length kc4, .slice va4 dN2.vals.length vc4] 30 (0, 0)) = w6
  have HM6 := HM5
  have HB6 := Lib.hid (HB5.out.trans ((HA5.out (.cells #[.bool dN2.leaf, .slice ka4 dN2.keys.length kc4, .slice va4 dN2.vals.length vc4] 30 (0, 0))).mono HB5.out.size))
  have HD6 := Lib.hid (HD5.out.keep (HA5.out (.cells #[.bool dN2.leaf, .slice ka4 dN2.keys.length kc4, .slice va4 dN2.vals.length vc4] 30 (0, 0))))
  rw [hw6, ← hb4] at HM6
  rw [hw6] at HB6 HD6
  rw [← hb4]
  clear hw6 hb4 HM5 HA5 HB5 HD5 a0 a1 a2
  have a0 := HD6.out.box.cell 0 _ rfl
  have a1 := HD6.out.box.cell 1 _ rfl
  have a2 := HD6.out.box.cell 2 _ rfl
  refine (find_any ka kc va vc dN2 kB _ HD6.out.inn HS.out.1).mono ?_
  rintro e w7 ⟨rfl, hb⟩
  rw [find_2b]
  have HM7 := Lib.hid (HM6.out.keep hb)
  have HD7 := Lib.hid (HD6.out.keep hb)
  have HB7 := Lib.hid (HB6.out.trans (hb.mono HB6.out.size))
  clear hb HM6 HD6 HB6 a0 a1 a2
  have a0 := HD7.out.box.cell 0 _ rfl
  have a1 := HD7.out.box.cell 1 _ rfl
  have a2 := HD7.out.box.cell 2 _ rfl
  go_wp2_with fail
  rw [HV2.out]
  refine (find_any ka kc va vc dN2 ⟨#[97, 97]⟩ _ HD7.out.inn HS.out.1).mono ?_
  rintro e w8 ⟨rfl, hb⟩
  rw [find_2aa]
  have HM8 := Lib.hid (HM7.out.keep hb)
  have HD8 := Lib.hid (HD7.out.keep hb)
  have HB8 := Lib.hid (HB7.out.trans (hb.mono HB7.out.size))
  clear hb HM7 HD7 HB7 a0 a1 a2
  have a0 := HD8.out.box.cell 0 _ rfl
  have a1 := HD8.out.box.cell 1 _ rfl
  have a2 := HD8.out.box.cell 2 _ rfl
  go_wp2_with fail
  rw [HV2.out]
  refine (split_any ka kc va vc dN2 _ HD8.out.inn HS.out.1 HD8.out.kc HD8.out.vc).mono ?_
  rintro e w9 ⟨xv, yv, rfl, hox, hoy, hb⟩
  rw [split_2] at hox hoy ⊢
  obtain ⟨kx, kcx, vx, vcx, rfl, hix, hkx, hvx⟩ := hox.view (by decide) (by decide)
  obtain ⟨ky, kcy, vy, vcy, rfl, hiy, hky, hvy⟩ := hoy.view (by decide) (by decide)
  have HM9 := Lib.hid (HM8.out.keep hb)
  have HD9 := Lib.hid (HD8.out.keep hb)
  have HB9 := Lib.hid (HB8.out.trans (hb.mono HB8.out.size))
  clear hb HM8 HD8 HB8 a0 a1 a2 hox hoy
  have HVX : Hid (Value.agg #[.bool dNx.leaf, .slice kx dNx.keys.length kcx, .slice vx dNx.vals.length vcx] = nodeV kx kcx vx vcx dNx) := rfl
  have HVY : Hid (Value.agg #[.bool dNy.leaf, .slice ky dNy.keys.length kcy, .slice vy dNy.vals.length vcy] = nodeV ky kcy vy vcy dNy) := rfl
  rw [← HVX.out, ← HVY.out]
  go_wp2_with fail
  rw [HVX.out]
  generalize hw10 : World.alloc (World.alloc w9 _) _ = w10
  have HBX : Hid (Box w10 w9.heap.size 30 #[.bool dNx.leaf, .slice kx dNx.keys.length kcx, .slice vx dNx.vals.length vcx]) := by show Box _ _ _ _; rw [← hw10]; exact (Box.new w9 _ _).alloc _
  have HBY : Hid (Box w10 (w9.heap.size + 1) 30 #[.bool dNy.leaf, .slice ky dNy.keys.length kcy, .slice vy dNy.vals.length vcy]) := by show Box _ _ _ _; rw [← hw10]; exact box_second _ _ _ _
  have HC : Hid (Below w9.heap.size w9 w10) := by show Below _ _ _; rw [← hw10]; exact ((Below.refl _ _).alloc (Nat.le_refl _) _).trans (((Below.refl _ _).alloc (Nat.le_refl _) _).mono (by rw [size_alloc]; omega))
  have HIX : Hid (NodeIn w10 kx vx dNx) := hix.keep HC.out
  have HM10 := Lib.hid (HM9.out.keep HC.out)
  have HD10 := Lib.hid (HD9.out.keep HC.out)
  have HB10 := Lib.hid (HB9.out.trans (HC.out.mono HB9.out.size))
  have HKX : Hid (dNx.keys.length ≤ kcx ∧ dNx.vals.length ≤ vcx) := ⟨hkx, hvx⟩
  obtain ⟨bx, hbx⟩ : ∃ bx, bx = w9.heap.size := ⟨_, rfl⟩
  rw [← hbx] at HBX HBY ⊢
  clear hw10 hix hiy hkx hvx hky hvy HM9 HD9 HB9 HC hbx
  refine (split_any kx kcx vx vcx dNx _ HIX.out HS.out.2.1 HKX.out.1 HKX.out.2).mono ?_
  rintro e w11 ⟨xv, yv, rfl, hox, hoy, hb⟩
  rw [split_x] at hox hoy ⊢
  obtain ⟨k1, kc1, v1', vc1, rfl, _, _, _⟩ := hox.view (by decide) (by decide)
  obtain ⟨k2, kc2, v2', vc2, rfl, _, _, _⟩ := hoy.view (by decide) (by decide)
  have HC11 : Hid (∀ o p, Below w10.heap.size w10 ((w11.alloc o).alloc p)) := fun o p => hb.trans ((((Below.refl _ _).alloc (Nat.le_refl _) o).trans (((Below.refl _ _).alloc (Nat.le_refl _) p).mono (by rw [size_alloc]; omega))).mono hb.size)
  clear hox hoy hb
  unfold nodeV
  go_wp2_with fail
  generalize hw12 : World.alloc (World.alloc w11 _) _ = w12
  have HC : Hid (Below w10.heap.size w10 w12) := by show Below _ _ _; rw [← hw12]; exact HC11.out _ _
  clear hw12 HC11
  refine (decode_any ⟨#[76]⟩ _ (by decide)).mono ?_
  rintro e w13 ⟨nv, rfl, ho, hb⟩
  rw [dec_L] at ho ⊢
  obtain ⟨k3, kc3, v3, vc3, rfl, _, _, _⟩ := ho.view (by decide) (by decide)
  have HC13 : Hid (∀ o, Below w10.heap.size w10 (w13.alloc o)) := fun o => HC.out.trans ((hb.trans (((Below.refl _ _).alloc (Nat.le_refl _) o).mono hb.size)).mono HC.out.size)
  clear ho hb HC
  unfold nodeV
  go_wp2_with fail
  generalize hw14 : World.alloc w13 _ = w14
  have HC : Hid (Below w10.heap.size w10 w14) := by show Below _ _ _; rw [← hw14]; exact HC13.out _
  clear hw14 HC13
  refine (decode_any ⟨#[88, 0]⟩ _ (by decide)).mono ?_
  rintro e w15 ⟨nv, rfl, ho, hb⟩
  rw [dec_X] at ho ⊢
  obtain ⟨k5, kc5, v5, vc5, rfl, _, _, _⟩ := ho.view (by decide) (by decide)
  have HC15 : Hid (∀ o, Below w10.heap.size w10 (w15.alloc o)) := fun o => HC.out.trans ((hb.trans (((Below.refl _ _).alloc (Nat.le_refl _) o).mono hb.size)).mono HC.out.size)
  clear ho hb HC
  unfold nodeV
  go_wp2_with fail
  generalize hw16 : World.alloc w15 _ = w16
  have HC16' : Hid (Below w10.heap.size w10 w16) := by show Below _ _ _; rw [← hw16]; exact HC15.out _
  have HC16 : Hid (Below w10.heap.size w10 w16.drew) := HC16'.out.drew
  clear hw16 HC15 HC16'
  have HD16 := Lib.hid (HD10.out.keep HC16.out)
  have HM16 := Lib.hid (HM10.out.keep HC16.out)
  have a0 := HD16.out.box.cell 0 _ rfl
  have a1 := HD16.out.box.cell 1 _ rfl
  have a2 := HD16.out.box.cell 2 _ rfl
  have m0 := HM16.out.box.cell 0 _ rfl
  have m1 := HM16.out.box.cell 1 _ rfl
  have m2 := HM16.out.box.cell 2 _ rfl
  have x1 := (HBX.out.keep HC16.out HBX.out.lt).cell 1 _ rfl
  have y1 := (HBY.out.keep HC16.out HBY.out.lt).cell 1 _ rfl
  have hsl := HSL.out
  have hlx : dNx.keys.length = 1 := rfl
  have hfd := fieldN
  have hly : dNy.keys.length = 1 := rfl
  refine wp_region_tree (fun W => W.cell? ⟨b1, 0, none⟩ = some (.bool dN2.leaf) ∧ W.cell? ⟨b1, 1, none⟩ = some (.slice ka dN2.keys.length kc) ∧ W.cell? ⟨b1, 2, none⟩ = some (.slice va dN2.vals.length vc) ∧ W.cell? ⟨b4, 0, none⟩ = some (.bool dN2.leaf) ∧ W.cell? ⟨b4, 1, none⟩ = some (.slice ka4 dN2.keys.length kc4) ∧ W.cell? ⟨b4, 2, none⟩ = some (.slice va4 dN2.vals.length vc4) ∧ W.cell? ⟨bx, 1, none⟩ = some (.slice kx dNx.keys.length kcx) ∧ W.cell? ⟨bx + 1, 1, none⟩ = some (.slice ky dNy.keys.length kcy)) 74 (.quiet 0 (.quiet 1 (.quiet 2 (.quiet 3 (.quiet 4 (.quiet 5 (.quiet 6 (.quiet 7 (.quiet 9 (.make 8 (.make 10 (.make 11 (.quiet 12 (.quiet 13 (.quiet 14 (.quiet 15 (.quiet 16 (.quiet 17 (.quiet 18 (.quiet 19 (.quiet 20 (.quiet 21 (.quiet 22 (.quiet 23 (.quiet 24 (.quiet 25 (.quiet 26 (.quiet 27 (.quiet 28 (.quiet 29 (.quiet 30 (.quiet 31 (.quiet 32 (.quiet 33 (.quiet 34 (.quiet 35 (.quiet 36 (.quiet 37 (.quiet 38 (.quiet 39 (.quiet 40 (.quiet 41 (.quiet 42 (.quiet 43 (.quiet 44 (.quiet 45 (.quiet 46 (.quiet 47 (.quiet 48 (.quiet 49 (.quiet 50 (.quiet 51 (.quiet 52 (.quiet 53 (.quiet 54 (.quiet 55 (.quiet 56 (.quiet 57 (.quiet 58 (.quiet 59 (.quiet 60 (.make 61 (.quiet 62 (.quiet 63 (.quiet 64 (.quiet 65 (.make 66 (.quiet 67 (.quiet 68 (.quiet 69 (.quiet 70 (.quiet 71 (.two 72 73 (.make 73 .nil) (.make 72 .nil)))))))))))))))))))))))))))))))))))))))))))))))))))))))))))))))))))))))))) (by kernel_rfl) (by kernel_rfl) ⟨a0, a1, a2, m0, m1, m2, x1, y1⟩ ?_
  clear a0 a1 a2 m0 m1 m2 x1 y1
  iterate 9 (apply wpTr_step rfl; (intro W hS K hK; obtain ⟨q0, q1, q2, q3, q4, q5, q6, q7⟩ := hS; go_simp; exact hK _ rfl))
  refine wpTr_make rfl (fun K' hK => ?_)
  go_simp
  refine (told_any dN2.leaf ka dN2.keys.length kc va dN2.vals.length vc w16.drew).mono ?_
  rintro e w17 ⟨rfl, hb⟩
  have HC17 := Lib.hid (HC16.out.trans (hb.mono HC16.out.size))
  clear hb
  have HD17 := Lib.hid (HD10.out.keep HC17.out)
  have HM17 := Lib.hid (HM10.out.keep HC17.out)
  have a0 := HD17.out.box.cell 0 _ rfl
  have a1 := HD17.out.box.cell 1 _ rfl
  have a2 := HD17.out.box.cell 2 _ rfl
  have m0 := HM17.out.box.cell 0 _ rfl
  have m1 := HM17.out.box.cell 1 _ rfl
  have m2 := HM17.out.box.cell 2 _ rfl
  have x1 := (HBX.out.keep HC17.out HBX.out.lt).cell 1 _ rfl
  have y1 := (HBY.out.keep HC17.out HBY.out.lt).cell 1 _ rfl
  refine hK _ _ _ (fun _ h => h) ⟨a0, a1, a2, m0, m1, m2, x1, y1⟩ ?_
  clear hK K' a0 a1 a2 m0 m1 m2 x1 y1
  refine wpTr_make rfl (fun K' hK => ?_)
  go_simp
  refine (told_any dN2.leaf ka4 dN2.keys.length kc4 va4 dN2.vals.length vc4 _).mono ?_
  rintro e w18 ⟨rfl, hb⟩
  have HC18 := Lib.hid (HC17.out.trans (hb.mono HC17.out.size))
  clear hb
  have HD18 := Lib.hid (HD10.out.keep HC18.out)
  have HM18 := Lib.hid (HM10.out.keep HC18.out)
  have a0 := HD18.out.box.cell 0 _ rfl
  have a1 := HD18.out.box.cell 1 _ rfl
  have a2 := HD18.out.box.cell 2 _ rfl
  have m0 := HM18.out.box.cell 0 _ rfl
  have m1 := HM18.out.box.cell 1 _ rfl
  have m2 := HM18.out.box.cell 2 _ rfl
  have x1 := (HBX.out.keep HC18.out HBX.out.lt).cell 1 _ rfl
  have y1 := (HBY.out.keep HC18.out HBY.out.lt).cell 1 _ rfl
  refine hK _ _ _ (fun _ h => h) ⟨a0, a1, a2, m0, m1, m2, x1, y1⟩ ?_
  clear hK K' a0 a1 a2 m0 m1 m2 x1 y1
  refine wpTr_make rfl (fun K' hK => ?_)
  go_simp
  refine (rsame_any ka kc va vc dN2 ka4 kc4 va4 vc4 dN2 _ HD18.out.inn HM18.out.inn).mono ?_
  rintro e w19 ⟨rfl, hb⟩
  rw [same_2]
  have HC19 := Lib.hid (HC18.out.trans (hb.mono HC18.out.size))
  clear hb
  have HD19 := Lib.hid (HD10.out.keep HC19.out)
  have HM19 := Lib.hid (HM10.out.keep HC19.out)
  have a0 := HD19.out.box.cell 0 _ rfl
  have a1 := HD19.out.box.cell 1 _ rfl
  have a2 := HD19.out.box.cell 2 _ rfl
  have m0 := HM19.out.box.cell 0 _ rfl
  have m1 := HM19.out.box.cell 1 _ rfl
  have m2 := HM19.out.box.cell 2 _ rfl
  have x1 := (HBX.out.keep HC19.out HBX.out.lt).cell 1 _ rfl
  have y1 := (HBY.out.keep HC19.out HBY.out.lt).cell 1 _ rfl
  refine hK _ _ _ (fun _ h => h) ⟨a0, a1, a2, m0, m1, m2, x1, y1⟩ ?_
  clear hK K' a0 a1 a2 m0 m1 m2 x1 y1
  iterate 49 (apply wpTr_step rfl; (intro W hS K hK; obtain ⟨q0, q1, q2, q3, q4, q5, q6, q7⟩ := hS; go_simp; exact hK _ rfl))
  refine wpTr_make rfl (fun K' hK => ?_)
  go_simp
  refine (size_any ka kc va vc dN2 _ HD19.out.inn HS.out.1).mono ?_
  rintro e w20 ⟨rfl, hb⟩
  rw [size_2]
  have HC20 := Lib.hid (HC19.out.trans (hb.mono HC19.out.size))
  clear hb
  have HD20 := Lib.hid (HD10.out.keep HC20.out)
  have HM20 := Lib.hid (HM10.out.keep HC20.out)
  have a0 := HD20.out.box.cell 0 _ rfl
  have a1 := HD20.out.box.cell 1 _ rfl
  have a2 := HD20.out.box.cell 2 _ rfl
  have m0 := HM20.out.box.cell 0 _ rfl
  have m1 := HM20.out.box.cell 1 _ rfl
  have m2 := HM20.out.box.cell 2 _ rfl
  have x1 := (HBX.out.keep HC20.out HBX.out.lt).cell 1 _ rfl
  have y1 := (HBY.out.keep HC20.out HBY.out.lt).cell 1 _ rfl
  refine hK _ _ _ (fun _ h => h) ⟨a0, a1, a2, m0, m1, m2, x1, y1⟩ ?_
  clear hK K' a0 a1 a2 m0 m1 m2 x1 y1
  iterate 4 (apply wpTr_step rfl; (intro W hS K hK; obtain ⟨q0, q1, q2, q3, q4, q5, q6, q7⟩ := hS; go_simp; exact hK _ rfl))
  refine wpTr_make rfl (fun K' hK => ?_)
  go_simp
  refine (without_any ka kc va vc dN2 kA _ HD20.out.inn HS.out.1).mono ?_
  rintro e w21 ⟨nv, rfl, ho, hb⟩
  rw [without_2] at ho
  obtain ⟨k7, kc7, v7, vc7, rfl, _, _, _⟩ := ho.view (by decide) (by decide)
  clear ho
  unfold nodeV
  have HC21 := Lib.hid (HC20.out.trans (hb.mono HC20.out.size))
  clear hb
  have HD21 := Lib.hid (HD10.out.keep HC21.out)
  have HM21 := Lib.hid (HM10.out.keep HC21.out)
  have a0 := HD21.out.box.cell 0 _ rfl
  have a1 := HD21.out.box.cell 1 _ rfl
  have a2 := HD21.out.box.cell 2 _ rfl
  have m0 := HM21.out.box.cell 0 _ rfl
  have m1 := HM21.out.box.cell 1 _ rfl
  have m2 := HM21.out.box.cell 2 _ rfl
  have x1 := (HBX.out.keep HC21.out HBX.out.lt).cell 1 _ rfl
  have y1 := (HBY.out.keep HC21.out HBY.out.lt).cell 1 _ rfl
  refine hK _ _ _ (fun _ h => h) ⟨a0, a1, a2, m0, m1, m2, x1, y1⟩ ?_
  clear hK K' a0 a1 a2 m0 m1 m2 x1 y1
  iterate 5 (apply wpTr_step rfl; (intro W hS K hK; obtain ⟨q0, q1, q2, q3, q4, q5, q6, q7⟩ := hS; go_simp; exact hK _ rfl))
  clear hlx hly hsl hfd
  refine wpTr_two rfl rfl (fun K' hK => ?_) (fun K' hK => ?_)
  · go_simp
    have hA : Below w21.heap.size w21 (w21.alloc (.cells #[.string ⟨#[]⟩] 9 (0, 0))) := (Below.refl _ _).alloc (Nat.le_refl _) _
    have hAB : Below w21.heap.size w21 ((w21.alloc (.cells #[.string ⟨#[]⟩] 9 (0, 0))).alloc (.cells #[.string ⟨#[]⟩] 9 (0, 0))) := hA.trans (((Below.refl _ _).alloc (Nat.le_refl _) _).mono hA.size)
    have HP : Hid (Box ((w21.alloc (.cells #[.string ⟨#[]⟩] 9 (0, 0))).alloc (.cells #[.string ⟨#[]⟩] 9 (0, 0))) w21.heap.size 9 #[.string ⟨#[]⟩]) := (Box.new _ _ _).alloc _
    have HQ : Hid (Box ((w21.alloc (.cells #[.string ⟨#[]⟩] 9 (0, 0))).alloc (.cells #[.string ⟨#[]⟩] 9 (0, 0))) (w21.heap.size + 1) 9 #[.string ⟨#[]⟩]) := box_second _ _ _ _
    have HAB := Lib.hid hAB
    have HDa := HD21.out.keep hA
    have HMa := HM21.out.keep hA
    have HXa := (HBX.out.keep HC21.out HBX.out.lt).keep hA (Nat.lt_of_lt_of_le HBX.out.lt HC21.out.size)
    have HYa := (HBY.out.keep HC21.out HBY.out.lt).keep hA (Nat.lt_of_lt_of_le HBY.out.lt HC21.out.size)
    refine hK _ _ _ (fun _ h => h) ⟨HDa.box.cell 0 _ rfl, HDa.box.cell 1 _ rfl, HDa.box.cell 2 _ rfl, HMa.box.cell 0 _ rfl, HMa.box.cell 1 _ rfl, HMa.box.cell 2 _ rfl, HXa.cell 1 _ rfl, HYa.cell 1 _ rfl⟩ ?_
    clear hK K' HDa HMa HXa HYa hA
    refine wpTr_make rfl (fun K' hK => ?_)
    go_simp
    have HDa := HD21.out.keep hAB
    have HMa := HM21.out.keep hAB
    have HXa := (HBX.out.keep HC21.out HBX.out.lt).keep hAB (Nat.lt_of_lt_of_le HBX.out.lt HC21.out.size)
    have HYa := (HBY.out.keep HC21.out HBY.out.lt).keep hAB (Nat.lt_of_lt_of_le HBY.out.lt HC21.out.size)
    refine hK _ _ _ (fun _ h => h) ⟨HDa.box.cell 0 _ rfl, HDa.box.cell 1 _ rfl, HDa.box.cell 2 _ rfl, HMa.box.cell 0 _ rfl, HMa.box.cell 1 _ rfl, HMa.box.cell 2 _ rfl, HXa.cell 1 _ rfl, HYa.cell 1 _ rfl⟩ ?_
    clear hK K' HDa HMa HXa HYa hAB
    refine wpTr_nil ?_
    try simp only [List.drop_succ_cons, List.drop_zero]
    generalize World.alloc (World.alloc w21 _) _ = wB at *
    go_wp2_with fail
    refine (chk_last wB (w21.heap.size) (w21.heap.size + 1) HP.out HQ.out).mono ?_
    rintro e w22 ⟨rfl, hb⟩
    have HZ := Lib.hid (HB10.out.trans ((HC21.out.trans ((HAB.out.trans (hb.mono HAB.out.size)).mono HC21.out.size)).mono HB10.out.size))
    clear hb
    go_wp2
    go_ret
    exact ⟨rfl, HZ.out⟩
  · go_simp
    have hA : Below w21.heap.size w21 (w21.alloc (.cells #[.string ⟨#[]⟩] 9 (0, 0))) := (Below.refl _ _).alloc (Nat.le_refl _) _
    have hAB : Below w21.heap.size w21 ((w21.alloc (.cells #[.string ⟨#[]⟩] 9 (0, 0))).alloc (.cells #[.string ⟨#[]⟩] 9 (0, 0))) := hA.trans (((Below.refl _ _).alloc (Nat.le_refl _) _).mono hA.size)
    have HP : Hid (Box ((w21.alloc (.cells #[.string ⟨#[]⟩] 9 (0, 0))).alloc (.cells #[.string ⟨#[]⟩] 9 (0, 0))) w21.heap.size 9 #[.string ⟨#[]⟩]) := (Box.new _ _ _).alloc _
    have HQ : Hid (Box ((w21.alloc (.cells #[.string ⟨#[]⟩] 9 (0, 0))).alloc (.cells #[.string ⟨#[]⟩] 9 (0, 0))) (w21.heap.size + 1) 9 #[.string ⟨#[]⟩]) := box_second _ _ _ _
    have HAB := Lib.hid hAB
    have HDa := HD21.out.keep hA
    have HMa := HM21.out.keep hA
    have HXa := (HBX.out.keep HC21.out HBX.out.lt).keep hA (Nat.lt_of_lt_of_le HBX.out.lt HC21.out.size)
    have HYa := (HBY.out.keep HC21.out HBY.out.lt).keep hA (Nat.lt_of_lt_of_le HBY.out.lt HC21.out.size)
    refine hK _ _ _ (fun _ h => h) ⟨HDa.box.cell 0 _ rfl, HDa.box.cell 1 _ rfl, HDa.box.cell 2 _ rfl, HMa.box.cell 0 _ rfl, HMa.box.cell 1 _ rfl, HMa.box.cell 2 _ rfl, HXa.cell 1 _ rfl, HYa.cell 1 _ rfl⟩ ?_
    clear hK K' HDa HMa HXa HYa hA
    refine wpTr_make rfl (fun K' hK => ?_)
    go_simp
    have HDa := HD21.out.keep hAB
    have HMa := HM21.out.keep hAB
    have HXa := (HBX.out.keep HC21.out HBX.out.lt).keep hAB (Nat.lt_of_lt_of_le HBX.out.lt HC21.out.size)
    have HYa := (HBY.out.keep HC21.out HBY.out.lt).keep hAB (Nat.lt_of_lt_of_le HBY.out.lt HC21.out.size)
    refine hK _ _ _ (fun _ h => h) ⟨HDa.box.cell 0 _ rfl, HDa.box.cell 1 _ rfl, HDa.box.cell 2 _ rfl, HMa.box.cell 0 _ rfl, HMa.box.cell 1 _ rfl, HMa.box.cell 2 _ rfl, HXa.cell 1 _ rfl, HYa.cell 1 _ rfl⟩ ?_
    clear hK K' HDa HMa HXa HYa hAB
    refine wpTr_nil ?_
    try simp only [List.drop_succ_cons, List.drop_zero]
    generalize World.alloc (World.alloc w21 _) _ = wB at *
    go_wp2_with fail
    refine (chk_last wB (w21.heap.size + 1) (w21.heap.size) HQ.out HP.out).mono ?_
    rintro e w22 ⟨rfl, hb⟩
    have HZ := Lib.hid (HB10.out.trans ((HC21.out.trans ((HAB.out.trans (hb.mono HAB.out.size)).mono HC21.out.size)).mono HB10.out.size))
    clear hb
    go_wp2
    go_ret
    exact ⟨rfl, HZ.out⟩
end Go.Proofs.Ytlkkgboaicjaiaa
