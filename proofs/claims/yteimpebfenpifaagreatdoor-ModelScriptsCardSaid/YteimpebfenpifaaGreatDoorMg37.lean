/-
  Texts put together: MrE, MrI, MrM.
-/
import Derived.Test.YteimpebfenpifaaGreatDoorMg32
import Derived.Test.YteimpebfenpifaaGreatDoorMg10
import Derived.Test.YteimpebfenpifaaGreatDoorMg9
import Derived.Test.YteimpebfenpifaaGreatDoorMrJ
import Derived.Test.YteimpebfenpifaaGreatDoorMrG
namespace Go.Proofs.YteimpebfenpifaaGreatDoor
open Go Go.RowKit Go.ChangeShapes Go.WideShapes Go.ChangeAt

def cntE (E : List EnD) (n : Nat) : Nat := E.countP (fun x => x.2 == n)
theorem cnt_take {E : List EnD} {n k : Nat} (h : k < E.length) : cntE (E.take (k + 1)) n = cntE (E.take k) n + if E[k].2 = n then 1 else 0 := by
  unfold cntE
  rw [List.take_succ_eq_append_getElem h, List.countP_append, List.countP_singleton]
  simp
theorem cnt_le (E : List EnD) (n k : Nat) : cntE (E.take k) n ≤ E.length := by
  have h1 := List.countP_le_length (p := fun x : EnD => x.2 == n) (l := E.take k)
  rw [List.length_take] at h1
  unfold cntE
  omega
set_option maxRecDepth 100000 in
set_option maxHeartbeats 4000000 in
theorem rlinks_any (p : RmP) (G : GD) (w : World) (h : RmAt w p G) (hk : G.E.length ≤ 100000) (n : Nat) :
    Calls Tryz.prog 36 #[.pointer (some ⟨p.b, 0, none⟩), .int .i64 (n : Int)] w fun e w' => e = .returned (.int .i64 (linksG G n : Nat)) ∧ w' = w := by
  have HE := Lib.hid h.e
  have HK := Lib.hid hk
  have c0 := h.box.cell 0 _ rfl
  obtain ⟨ea, ec, hev⟩ := h.e.shape
  rw [hev] at c0 HE
  have HQ : Hid (linksG G n = cntE G.E n) := rfl
  generalize linksG G n = R at *
  clear h hk hev
  generalize G.E = E at *
  go_enter Tryz.func36, Tryz.ntmps36
  go_wp2_with fail
  go_loop [5, 6] (fun c i => ∃ k : Nat, k ≤ E.length ∧ i = .int .i64 k ∧ c = .int .i64 (cntE (E.take k) n : Nat)) (fun _ i => E.length - (intOf i).toNat)
  case atStart => exact ⟨0, Nat.zero_le _, rfl, rfl⟩
  case round =>
    obtain ⟨k, hk, rfl, rfl⟩ := hrel
    by_cases hlt : k < E.length
    · obtain ⟨g, rfl, -, c1, c2, -, -⟩ := HE.out.at hlt
      have HT := Lib.hid (cnt_take (n := n) hlt)
      have hkk : k + 1 ≤ 200000 := by have := HK.out; omega
      have hcc : cntE (E.take k) n + 1 ≤ 200000 := by have h1 := cnt_le E n k; have := HK.out; omega
      have h0 : (0 : Int) ≤ (k : Int) := by omega
      have h1 : (k : Int) < (E.length : Int) := by omega
      have HLT := Lib.hid hlt
      generalize E[k] = x at *
      obtain ⟨x1, x2⟩ := x
      dsimp only at *
      generalize cntE (E.take k) n = c at *
      by_cases hx : x2 = n
      · have f1 : ((x2 : Int) == (n : Int)) = true := by rw [hx]; simp
        have HT2 : Hid (cntE (E.take (k + 1)) n = c + 1) := HT.out.trans (by rw [if_pos hx])
        clear hx hlt HT
        go_wp2
        go_round
        case rel => exact ⟨k + 1, HLT.out, by go_num, by rw [HT2.out]; go_num⟩
        case measure => have := HLT.out; simp [intOf]; omega
      · have f1 : ((x2 : Int) == (n : Int)) = false := by
          have : (x2 : Int) ≠ (n : Int) := by omega
          simpa using this
        have HT2 : Hid (cntE (E.take (k + 1)) n = c) := HT.out.trans (by rw [if_neg hx]; rfl)
        clear hx hlt HT
        go_wp2
        go_round
        case rel => exact ⟨k + 1, HLT.out, by go_num, by rw [HT2.out]⟩
        case measure => have := HLT.out; simp [intOf]; omega
    · have hke : k = E.length := by omega
      subst hke
      have HQ2 : Hid (cntE E n = R) := HQ.out.symm
      clear hlt
      go_wp2
      go_ret
      exact ⟨by rw [HQ2.out]; rfl, rfl⟩

theorem fil_take {E : List EnD} {P : EnD → Bool} {k : Nat} (h : k < E.length) : (E.take (k + 1)).filter P = (E.take k).filter P ++ if P E[k] = true then [E[k]] else [] := by
  rw [List.take_succ_eq_append_getElem h, List.filter_append]
  congr 1
  cases hP : P E[k] <;> simp [hP]
structure DrJ (w : World) (p : RmP) (G : GD) (vo : Value) (l : List EnD) (wr : World) : Prop where
  o : Ens wr vo l
  n : ∀ k, vo.ownBlock = some k → w.heap.size ≤ k
  r : RmAt wr p G
  b : Below w.heap.size w wr
set_option maxRecDepth 100000 in
set_option maxHeartbeats 4000000 in
theorem rdrop_any (p : RmP) (G : GD) (w : World) (h : RmAt w p G) (hw : WfG G) (hk : G.E.length ≤ 50000) (s : ByteArray) (hs : (splitD s).2 = 0) :
    Calls Tryz.prog 60 #[.pointer (some ⟨p.b, 0, none⟩), .string s] w fun e w' => e = .returned (.tuple #[]) ∧ RmTo p (dropG G s) w w' := by
  have HK := Lib.hid hk
  have HJ : Hid (∀ x ∈ G.E, joinD x.1 = s ↔ x.1 = (splitD s).1) := fun x hx => join_is (hw.names x hx) (by rw [← hs])
  obtain ⟨P, hP⟩ : ∃ P : EnD → Bool, P = fun x => !decide (x.1 = (splitD s).1) := ⟨_, rfl⟩
  have HP := Lib.hid (fun x => congrFun hP x)
  have HG : Hid (dropG G s = ⟨G.E.filter P, G.T⟩) := by rw [hP]; exact rfl
  have HA := Lib.hid h
  generalize dropG G s = G' at *
  generalize (splitD s).1 = L at *
  have HJ0 : Hid (DrJ w p G (.slice none 0 0) ((G.E.take 0).filter P) w) := ⟨Ens.nil w, (fun k hk => by cases hk), h, Below.refl _ _⟩
  clear hP h hw hk hs
  go_enter Tryz.func60, Tryz.ntmps60
  go_wp2_with fail
  go_loopw [4, 5] (fun vo i wr => ∃ k : Nat, k ≤ G.E.length ∧ i = .int .i64 k ∧ Hid (DrJ w p G vo ((G.E.take k).filter P) wr)) (fun _ i _ => G.E.length - (intOf i).toNat)
  case atStart => exact ⟨0, Nat.zero_le _, rfl, HJ0⟩
  case round =>
    clear HJ0
    obtain ⟨k, hk, rfl, HD⟩ := hrel
    have c0 := HD.out.r.box.cell 0 _ rfl
    obtain ⟨ea, ec, hev⟩ := HD.out.r.e.shape
    have HE := Lib.hid HD.out.r.e
    rw [hev] at c0 HE
    by_cases hlt : k < G.E.length
    · obtain ⟨g, rfl, -, c1, c2, -, -⟩ := HE.out.at hlt
      have HX := Lib.hid (HJ.out _ (List.getElem_mem hlt))
      have HF := Lib.hid (fil_take (P := P) hlt)
      have hkk : k + 1 ≤ 200000 := by have := HK.out; omega
      have h0 : (0 : Int) ≤ (k : Int) := by omega
      have h1 : (k : Int) < (G.E.length : Int) := by omega
      have HFL : Hid (((G.E.take k).filter P).length ≤ 50000) := by
        have h2 := List.length_filter_le P (G.E.take k)
        rw [List.length_take] at h2
        have := HK.out
        show _ ≤ _
        omega
      have HLT := Lib.hid hlt
      generalize G.E[k] = x at *
      obtain ⟨x1, x2⟩ := x
      have HPX := Lib.hid (HP.out (x1, x2))
      dsimp only at *
      generalize (G.E.take k).filter P = F at *
      clear hev hlt HE
      by_cases hx : joinD x1 = s
      · have f1 : ((joinD x1).toList != s.toList) = false := by rw [bne, beq_bytes, decide_eq_true hx]; rfl
        have f2 : ((joinD x1).toList == s.toList) = true := by rw [beq_bytes, decide_eq_true hx]
        have HF2 : Hid ((G.E.take (k + 1)).filter P = F) := HF.out.trans (by rw [HPX.out, decide_eq_true (HX.out.1 hx)]; simp)
        clear hx HF HPX
        go_wp2
        go_roundw
        case rel => exact ⟨k + 1, HLT.out, by go_num, by rw [HF2.out]; exact HD⟩
        case measure => have := HLT.out; simp [intOf]; omega
      · have f1 : ((joinD x1).toList != s.toList) = true := by rw [bne, beq_bytes, decide_eq_false hx]; rfl
        have f2 : ((joinD x1).toList == s.toList) = false := by rw [beq_bytes, decide_eq_false hx]
        have HF2 : Hid ((G.E.take (k + 1)).filter P = F ++ [(x1, x2)]) := HF.out.trans (by rw [HPX.out, decide_eq_false (fun e => hx (HX.out.2 e))]; simp)
        clear hx HF HPX
        go_wp2_with (at_builtin; refine wp_ens_push _ rfl _ _ rfl _ F rfl ?c0 ⟨wr.heap.size, 0, none⟩ 1 1 [(x1, x2)] rfl rfl ?c1 ?c2 ?_)
        case c0 => exact HD.out.o.keep ((Below.refl _ _).alloc (Nat.le_refl _) _)
        case c1 =>
          intro j u hu
          rw [add_plain, Nat.zero_add]
          exact (Box.new wr 89 #[.string (joinD x1), .int .i64 x2]).cell j u (by simpa [EnV] using hu)
        case c2 => have := HFL.out; omega
        intro v' w' h2 h3 h4
        have hz := HD.out.b.alloc HD.out.b.size (.cells #[.string (joinD x1), .int .i64 x2] 89 (0, 0))
        have hb' := hz.grown h3 hz.size HD.out.n
        have HD2 : Hid (DrJ w p G v' (F ++ [(x1, x2)]) w') := by
          refine ⟨h2, fun j hj => ?_, HA.out.keep hb', hb'⟩
          rcases h4 with e | e
          · exact HD.out.n j (e ▸ hj)
          · rw [e] at hj
            injection hj with hj
            have := HD.out.b.size
            omega
        rw [← HF2.out] at HD2
        clear h2 h3 h4 hz hb' HD c0 c1 c2
        go_wp2
        go_roundw
        case rel => exact ⟨k + 1, HLT.out, by go_num, HD2⟩
        case measure => have := HLT.out; simp [intOf]; omega
    · have hke : k = G.E.length := by omega
      rw [hke, List.take_length] at HD
      subst hke
      obtain ⟨va, vc, rfl⟩ := HD.out.o.shape
      have HT := Lib.hid (HA.out.toE (Chg.of HD.out.b (Nat.le_refl _)) HD.out.o (fun k hk => .inr (HD.out.n k hk)))
      rw [← HG.out] at HT
      have f0 := HD.out.r.box.free 0
      clear hlt
      go_wp2
      go_end0
      exact ⟨rfl, HT.out⟩
end Go.Proofs.YteimpebfenpifaaGreatDoor

namespace Go.Proofs.YteimpebfenpifaaGreatDoor
open Go Go.RowKit Go.ChangeShapes Go.WideShapes Go.ChangeAt

theorem digits_small {n : Nat} (h : n < 10) : digitsB n = ⟨#[UInt8.ofNat (48 + n)]⟩ := by
  unfold digitsB
  rw [Lib.decDigits, dif_pos h]
theorem digits_big {n : Nat} (h : ¬ n < 10) : digitsB n = digitsB (n / 10) ++ ⟨#[UInt8.ofNat (48 + n % 10)]⟩ := by
  apply pb_ext
  unfold digitsB
  rw [pb_append, pb_mk, pb_mk, Lib.decDigits, dif_neg h]
  rfl
theorem digits_len (n : Nat) : (digitsB n).size ≤ n + 1 := by
  induction n using Nat.strongRecOn with
  | _ n ih =>
    by_cases h : n < 10
    · rw [digits_small h]
      show 1 ≤ n + 1
      omega
    · have h1 := ih (n / 10) (by omega)
      rw [digits_big h, ByteArray.size_append]
      have h2 : (⟨#[UInt8.ofNat (48 + n % 10)]⟩ : ByteArray).size = 1 := rfl
      omega
set_option maxRecDepth 100000 in
set_option maxHeartbeats 4000000 in
theorem rdigits_any (n : Nat) (hn : n ≤ 1000000) : ∀ w : World, Calls Tryz.prog 61 #[.int .i64 (n : Int)] w fun e w' => e = .returned (.string (digitsB n)) ∧ Below w.heap.size w w' := by
  induction n using Nat.strongRecOn with
  | _ n ih =>
    intro w
    have HI : Hid (∀ m, m < n → ∀ w : World, Calls Tryz.prog 61 #[.int .i64 (m : Int)] w fun e w' => e = .returned (.string (digitsB m)) ∧ Below w.heap.size w w') := fun m hm w => ih m hm (by omega) w
    have hb := (Below.refl w.heap.size w).alloc (Nat.le_refl _) (.cells #[.int .u8 (48 + (n : Int) % 10)] 5 (0, 0))
    obtain ⟨dc, hdc⟩ : ∃ dc, dc = UInt8.ofNat (48 + n % 10) := ⟨_, rfl⟩
    have e0 : (48 + (n : Int) % 10) = ((dc.toNat : Nat) : Int) := by rw [hdc, UInt8.toNat_ofNat']; omega
    have hcv : (convert 76 9 (.slice (some ⟨w.heap.size, 0, none⟩) 1 1)).run Tryz.prog (w.alloc (.cells #[.int .u8 (48 + (n : Int) % 10)] 5 (0, 0))) = .ok (.string ⟨#[dc]⟩) (w.alloc (.cells #[.int .u8 (48 + (n : Int) % 10)] 5 (0, 0))) := by
      rw [e0]
      have h := World.ownsRow_lit (e := 5) (size := 1) w #[byV (dc)] 1 (Nat.le_refl w.heap.size) (by unfold maxLen; omega) (by rfl)
      have hbf : Buf (w.alloc (.cells #[byV (dc)] 5 (0, 0))) w.heap.size (.slice (some ⟨w.heap.size, 0, none⟩) 1 1) [dc] := h
      exact hbf.text
    have HB := Lib.hid hb
    have HN := Lib.hid hn
    clear ih hb e0
    by_cases h : n < 10
    · have d1 : (10 ≤ (n : Int)) = False := eq_false (by omega)
      have HQ : Hid (digitsB n = ⟨#[dc]⟩) := by show _ = _; rw [hdc, digits_small h, Nat.mod_eq_of_lt h]
      clear h hdc
      go_enter Tryz.func61, Tryz.ntmps61
      go_wp2
      go_ret
      exact ⟨by rw [HQ.out]; rfl, HB.out⟩
    · have d1 : (10 ≤ (n : Int)) = True := eq_true (by omega)
      have HQ : Hid (digitsB n = digitsB (n / 10) ++ ⟨#[dc]⟩) := by show _ = _; rw [hdc]; exact digits_big h
      have HC := HI.out (n / 10) (by omega) (w.alloc (.cells #[.int .u8 (48 + (n : Int) % 10)] 5 (0, 0)))
      rw [show ((n / 10 : Nat) : Int) = (n : Int) / 10 from by omega] at HC
      have HC := Lib.hid HC
      have hsz : ((digitsB (n / 10)).size : Int) + ((⟨#[dc]⟩ : ByteArray).size : Int) ≤ 1000002 := by
        have h1 := digits_len (n / 10)
        have h2 : (⟨#[dc]⟩ : ByteArray).size = 1 := rfl
        omega
      clear h hdc
      go_enter Tryz.func61, Tryz.ntmps61
      go_wp2_with fail
      refine HC.out.mono ?_
      rintro e w1 ⟨rfl, hb⟩
      have HB2 := Lib.hid (HB.out.trans (hb.mono HB.out.size))
      clear hb
      go_wp2
      go_ret
      exact ⟨by rw [HQ.out]; rfl, HB2.out⟩
def cF (G : GD) (k : Nat) : Nat := ((List.range k).map (fun n => if aliveG G n && !dirG G n then 1 else 0)).sum
def cD (G : GD) (k : Nat) : Nat := ((List.range k).map (fun n => if aliveG G n && dirG G n then 1 else 0)).sum
def cB (G : GD) (k : Nat) : Nat := ((List.range k).map (fun n => if aliveG G n && !dirG G n then (textG G n).size else 0)).sum
theorem cF_succ (G : GD) (k : Nat) : cF G (k + 1) = cF G k + if aliveG G k && !dirG G k then 1 else 0 := by
  unfold cF; rw [List.range_succ, List.map_append, List.sum_append]; simp
theorem cD_succ (G : GD) (k : Nat) : cD G (k + 1) = cD G k + if aliveG G k && dirG G k then 1 else 0 := by
  unfold cD; rw [List.range_succ, List.map_append, List.sum_append]; simp
theorem cB_succ (G : GD) (k : Nat) : cB G (k + 1) = cB G k + if aliveG G k && !dirG G k then (textG G k).size else 0 := by
  unfold cB; rw [List.range_succ, List.map_append, List.sum_append]; simp
theorem cF_le (G : GD) (k : Nat) : cF G k ≤ k := by
  induction k with
  | zero => exact Nat.le_refl _
  | succ k ih => rw [cF_succ]; split <;> omega
theorem cD_le (G : GD) (k : Nat) : cD G k ≤ k := by
  induction k with
  | zero => exact Nat.le_refl _
  | succ k ih => rw [cD_succ]; split <;> omega
theorem cB_le {G : GD} (hs : ∀ n, (textG G n).size ≤ 16384) (k : Nat) : cB G k ≤ 16384 * k := by
  induction k with
  | zero => exact Nat.le_refl _
  | succ k ih => rw [cB_succ]; have := hs k; split <;> omega
set_option maxRecDepth 100000 in
set_option maxHeartbeats 4000000 in
theorem rcount_any (p : RmP) (G : GD) (w : World) (h : RmAt w p G) (hk : G.E.length ≤ 100000) (hT : G.T.length ≤ 100000) (hT1 : 0 < G.T.length) (h0 : dirG G 0 = true) (hs : ∀ n, (textG G n).size ≤ 16384) :
    Calls Tryz.prog 20 #[.pointer (some ⟨p.b, 0, none⟩)] w fun e w' => e = .returned (.tuple #[.int .i64 (countG G).1, .int .i64 (countG G).2.1, .int .i64 (countG G).2.2]) ∧ w' = w := by
  have HA := Lib.hid h
  have HK := Lib.hid hk
  have HT := Lib.hid hT
  have HZ := Lib.hid hs
  have HQ : Hid (countG G = (cF G G.T.length, cD G G.T.length, cB G G.T.length)) := rfl
  have HT1 := Lib.hid hT1
  have a0 : aliveG G 0 = true := rfl
  have HF1 : Hid (cF G 1 = 0) := by show _ = _; rw [cF_succ, a0, h0]; rfl
  have HD1 : Hid (cD G 1 = 1) := by show _ = _; rw [cD_succ, a0, h0]; rfl
  have HB1 : Hid (cB G 1 = 0) := by show _ = _; rw [cB_succ, a0, h0]; rfl
  have t0 : w.cell? ⟨p.b, 1, none⟩ = some p.tv := h.box.cell 1 _ rfl
  obtain ⟨ta, tc, htv⟩ := h.t.shape
  rw [htv] at t0
  have HTG : Hid (Tgs w (.slice ta G.T.length tc) G.T) := by have := h.t; rw [htv] at this; exact this
  clear h hk hT hs h0 hT1 a0 htv
  go_enter Tryz.func20, Tryz.ntmps20
  go_wp2_with fail
  go_loopw [5, 6, 7, 8] (fun a b c i wr => ∃ k : Nat, 1 ≤ k ∧ k ≤ G.T.length ∧ i = .int .i64 k ∧ a = .int .i64 (cF G k : Nat) ∧ b = .int .i64 (cD G k : Nat) ∧ c = .int .i64 (cB G k : Nat) ∧ w = wr) (fun _ _ _ i _ => G.T.length - (intOf i).toNat)
  case atStart => exact ⟨1, Nat.le_refl _, HT1.out, rfl, by rw [HF1.out]; rfl, by rw [HD1.out]; rfl, by rw [HB1.out]; rfl, rfl⟩
  case round =>
    clear HF1 HD1 HB1
    obtain ⟨k, hk1, hk, rfl, rfl, rfl, rfl, rfl⟩ := hrel
    by_cases hlt : k < G.T.length
    · obtain ⟨g, rfl, -, c1, c2, -, -⟩ := HTG.out.at hlt
      have m1 : w.cell? ⟨g, k * 2, none⟩ = some (.bool (dirG G k)) := by rw [dir_at hlt]; exact c1
      have m2 : w.cell? ⟨g, k * 2 + 1, none⟩ = some (.string (textG G k)) := by rw [text_at hlt]; exact c2
      have HL := Lib.hid (rlinks_any p G w HA.out HK.out k)
      have HSF := Lib.hid (cF_succ G k)
      have HSD := Lib.hid (cD_succ G k)
      have HSB := Lib.hid (cB_succ G k)
      have hal : aliveG G k = decide (0 < linksG G k) := by
        have : (k == 0) = false := by
          have : k ≠ 0 := by omega
          simpa using this
        unfold aliveG; rw [this]; rfl
      rw [hal] at HSF HSD HSB
      have h0 : (0 : Int) ≤ (k : Int) := by omega
      have h1 : (k : Int) < (G.T.length : Int) := by omega
      have hkk : k + 1 ≤ 200000 := by have := HT.out; omega
      have b1 : cF G k + 1 ≤ 200000 := by have := cF_le G k; have := HT.out; omega
      have b2 : cD G k + 1 ≤ 200000 := by have := cD_le G k; have := HT.out; omega
      have b3 : cB G k + (textG G k).size ≤ 3000000000 := by have := cB_le HZ.out k; have := HZ.out k; have := HT.out; omega
      have HLT := Lib.hid hlt
      have HK1 : Hid (1 ≤ k + 1) := Nat.le_add_left 1 k
      generalize textG G k = tx at *
      generalize cF G k = vf at *
      generalize cD G k = vd at *
      generalize cB G k = vb at *
      clear c1 c2 hlt hal hk hk1
      generalize dirG G k = dk at *
      by_cases hz : 0 < linksG G k
      · have d1 : ((0 : Int) < (linksG G k : Int)) = True := eq_true (by omega)
        have d2 : (0 < linksG G k) = True := eq_true hz
        rw [decide_eq_true hz] at HSF HSD HSB
        clear hz
        cases dk with
        | true =>
          have HF2 : Hid (cF G (k + 1) = vf) := HSF.out
          have HD2 : Hid (cD G (k + 1) = vd + 1) := HSD.out
          have HB2 : Hid (cB G (k + 1) = vb) := HSB.out
          clear HSF HSD HSB
          go_wp2_with fail
          refine HL.out.mono ?_
          rintro e w2 ⟨rfl, rfl⟩
          go_wp2_with fail
          refine HL.out.mono ?_
          rintro e w2 ⟨rfl, rfl⟩
          go_wp2
          go_roundw
          case rel => exact ⟨k + 1, HK1.out, HLT.out, by go_num, by rw [HF2.out], by rw [HD2.out]; go_num, by rw [HB2.out], trivial⟩
          case measure => have := HLT.out; simp [intOf]; omega
        | false =>
          have HF2 : Hid (cF G (k + 1) = vf + 1) := HSF.out
          have HD2 : Hid (cD G (k + 1) = vd) := HSD.out
          have HB2 : Hid (cB G (k + 1) = vb + tx.size) := HSB.out
          clear HSF HSD HSB
          go_wp2_with fail
          refine HL.out.mono ?_
          rintro e w2 ⟨rfl, rfl⟩
          go_wp2_with fail
          refine HL.out.mono ?_
          rintro e w2 ⟨rfl, rfl⟩
          go_wp2
          go_roundw
          case rel => exact ⟨k + 1, HK1.out, HLT.out, by go_num, by rw [HF2.out]; go_num, by rw [HD2.out], by rw [HB2.out]; go_num, trivial⟩
          case measure => have := HLT.out; simp [intOf]; omega
      · have d1 : ((0 : Int) < (linksG G k : Int)) = False := eq_false (by omega)
        have d2 : (0 < linksG G k) = False := eq_false hz
        rw [decide_eq_false hz] at HSF HSD HSB
        have HF2 : Hid (cF G (k + 1) = vf) := HSF.out
        have HD2 : Hid (cD G (k + 1) = vd) := HSD.out
        have HB2 : Hid (cB G (k + 1) = vb) := HSB.out
        clear hz HSF HSD HSB
        go_wp2_with fail
        refine HL.out.mono ?_
        rintro e w2 ⟨rfl, rfl⟩
        go_wp2_with fail
        refine HL.out.mono ?_
        rintro e w2 ⟨rfl, rfl⟩
        go_wp2
        go_roundw
        case rel => exact ⟨k + 1, HK1.out, HLT.out, by go_num, by rw [HF2.out], by rw [HD2.out], by rw [HB2.out], trivial⟩
        case measure => have := HLT.out; simp [intOf]; omega
    · have hke : k = G.T.length := by omega
      subst hke
      clear hlt
      go_wp2
      refine bodyPost_ret (results_three rfl _ _ _) rfl ?_
      exact ⟨by rw [HQ.out]; rfl, rfl⟩
end Go.Proofs.YteimpebfenpifaaGreatDoor

namespace Go.Proofs.YteimpebfenpifaaGreatDoor
open Go Go.RowKit Go.ChangeShapes Go.WideShapes Go.ChangeAt

structure AnJ (w : World) (p : RmP) (G : GD) (ob ab : Nat) (o : OpD) (wr : World) : Prop where
  j : OpJ w p G ob o wr
  a : Box wr ab 33 #[.int .i64 0, .int .i64 0, .string ⟨#[]⟩, .slice none 0 0]
  la : w.heap.size ≤ ab
theorem AnJ.keep {w wr w' : World} {p : RmP} {G : GD} {ob ab : Nat} {o : OpD} (h : AnJ w p G ob ab o wr) (hb : Below wr.heap.size wr w') : AnJ w p G ob ab o w' := ⟨h.j.keep hb, h.a.keep hb h.a.lt, h.la⟩
theorem AnJ.drew {w wr : World} {p : RmP} {G : GD} {ob ab : Nat} {o : OpD} (h : AnJ w p G ob ab o wr) : AnJ w p G ob ab o wr.drew := h.keep ⟨rfl, rfl, rfl, Nat.le_refl _, fun _ _ => rfl⟩
theorem AnJ.new {w : World} {p : RmP} {G : GD} (h : RmAt w p G) (o : OpD) : AnJ w p G w.heap.size (w.heap.size + 1) o ((w.alloc (.cells #[.int .i64 o.do_, .string o.path, .string o.dst, .int .i64 o.off, .int .i64 o.len, .string o.data] 36 (0, 0))).alloc (.cells #[.int .i64 0, .int .i64 0, .string ⟨#[]⟩, .slice none 0 0] 33 (0, 0))) := by
  have h1 := OpJ.new h o
  have h2 := Box.new (w.alloc (.cells #[.int .i64 o.do_, .string o.path, .string o.dst, .int .i64 o.off, .int .i64 o.len, .string o.data] 36 (0, 0))) 33 #[.int .i64 0, .int .i64 0, .string ⟨#[]⟩, .slice none 0 0]
  rw [size_alloc] at h2
  exact ⟨h1.keep ((Below.refl _ _).alloc (Nat.le_refl _) _), h2, Nat.le_succ _⟩
theorem AnJ.far {w wr : World} {p : RmP} {G : GD} {ob ab : Nat} {o : OpD} (h : AnJ w p G ob ab o wr) : ab ∉ p.fp := fun hm => by
  have h1 := h.j.f ab hm
  have h2 := h.la
  omega
def putA (w : World) (ab : Nat) (q : AnsD) (v : Value) : World := (((w.setCell ⟨ab, 0, none⟩ (.int .i64 q.code)).setCell ⟨ab, 1, none⟩ (.int .i64 q.n)).setCell ⟨ab, 2, none⟩ (.string q.data)).setCell ⟨ab, 3, none⟩ v
/-- What an op of the reference's tree comes to. -/
def RRes (w : World) (p : RmP) (R : AnsD × GD) (e : Ending) (w' : World) : Prop :=
  ∃ va vc, e = .returned (ansV R.1.code R.1.n R.1.data (.slice va R.1.names.length vc)) ∧ RmTo p R.2 w w' ∧ Ks w' w.heap.size (.slice va R.1.names.length vc) R.1.names
theorem RmTo.put {w w1 w2 : World} {p : RmP} {G' : GD} {ab : Nat} (hb : Below w.heap.size w w1) (ht : RmTo p G' w1 w2) (h1 : ab < w1.heap.size) (h0 : w.heap.size ≤ ab) (h2 : ab ∉ p.fp) (q : AnsD) (v : Value) : RmTo p G' w (putA w2 ab q v) := by
  obtain ⟨q2, e, k1, k2, k3⟩ := ht
  have ho : Only ab w2 (putA w2 ab q v) := only_pt4 w2 ab _ _ _ _
  refine ⟨q2, e, k1.of fun k hk hl => ho.block k hl (fun e2 => ?_), ((Chg.of (S := p.fp) hb (Nat.le_refl _)).trans k2).then (Chg.only ho) (fun i hi => ?_), fun k hk => ?_⟩
  · have e3 : k = ab := by injection e2
    subst e3
    rcases k3 k hk with h | h
    · exact h2 h
    · omega
  · rw [List.mem_singleton] at hi
    exact .inr (by omega)
  · rcases k3 k hk with h | h
    · exact .inl h
    · exact .inr (by have := hb.size; omega)
theorem RRes.fin {w w1 w2 : World} {p : RmP} {R : AnsD × GD} {q : AnsD} {G' : GD} {ab : Nat} {va : Option Addr} {vc : Nat} (hR : R = (q, G')) (hb : Below w.heap.size w w1) (ht : RmTo p G' w1 w2) (h1 : ab < w1.heap.size) (h0 : w.heap.size ≤ ab) (h2 : ab ∉ p.fp) (hks : Ks w2 w.heap.size (.slice va q.names.length vc) q.names) (hn : (Value.slice va q.names.length vc).ownBlock ≠ some ab) :
    RRes w p R (.returned (ansV q.code q.n q.data (.slice va q.names.length vc))) (putA w2 ab q (.slice va q.names.length vc)) := by
  subst hR
  refine ⟨va, vc, rfl, RmTo.put hb ht h1 h0 h2 _ _, ?_⟩
  have ho : Only ab w2 (putA w2 ab q (.slice va q.names.length vc)) := only_pt4 w2 ab _ _ _ _
  exact ownsRow_of hks fun k hk hl => ho.block k hl (fun e2 => hn (by
    have e3 : k = ab := by injection e2
    rw [← e3]; exact hk))
theorem AnJ.fin {w wr w2 : World} {p : RmP} {G : GD} {ob ab : Nat} {o : OpD} (h : AnJ w p G ob ab o wr) {R : AnsD × GD} {q : AnsD} {G' : GD} (hR : R = (q, G')) (ht : RmTo p G' wr w2) {va : Option Addr} {vc : Nat} (hks : Ks w2 wr.heap.size (.slice va q.names.length vc) q.names) : RRes w p R (.returned (ansV q.code q.n q.data (.slice va q.names.length vc))) (putA w2 ab q (.slice va q.names.length vc)) :=
  RRes.fin hR h.j.b ht h.a.lt h.la h.far (hks.low h.j.b.size) (fun e => by
    have h1 := hks.own_block ab e
    have h2 := h.a.lt
    omega)
theorem AnJ.fin0 {w wr w2 : World} {p : RmP} {G : GD} {ob ab : Nat} {o : OpD} (h : AnJ w p G ob ab o wr) {R : AnsD × GD} {q : AnsD} {G' : GD} (hR : R = (q, G')) (hq : q.names = []) (ht : RmTo p G' wr w2) : RRes w p R (.returned (ansV q.code q.n q.data (.slice none 0 0))) (putA w2 ab q (.slice none 0 0)) := by
  have hks : Ks w2 wr.heap.size (.slice none q.names.length 0) q.names := by rw [hq]; exact Ks.nil _ _
  have := h.fin hR ht hks
  rw [hq] at this
  exact this
theorem AnJ.same {w wr : World} {p : RmP} {G : GD} {ob ab : Nat} {o : OpD} (h : AnJ w p G ob ab o wr) : RmTo p G wr wr := RmTo.same h.j.r (Below.refl _ _)
end Go.Proofs.YteimpebfenpifaaGreatDoor
