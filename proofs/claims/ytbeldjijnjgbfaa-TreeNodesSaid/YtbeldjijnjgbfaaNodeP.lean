/-
  Encode.
-/
import Derived.Test.YtbeldjijnjgbfaaMg15
namespace Go.Proofs.Ytbeldjijnjgbfaa
open Go.RowKit Go.ChangeShapes Go.WideShapes Go.ChangeAt

/-- The builder in block b holds the text S; its buffer lies behind it. -/
def IsBs (w : World) (b : Nat) (S : ByteArray) : Prop := IsBd w b b S.data.toList
theorem IsBd.keep {w w' : World} {B b : Nat} {l : List UInt8} (h : IsBd w B b l) (hb : Below w.heap.size w w') : IsBd w' B b l := by
  have key : ∀ p, Lib.BuilderAt 129 5 B b p (Lib.byteCells l) w → Lib.BuilderAt 129 5 B b p (Lib.byteCells l) w' := by
    rintro p ⟨hB, v, hbk, hown, hne⟩
    exact ⟨hB, v, (hb.block b (lt_of_block hbk)).trans hbk, ownsRow_of hown fun k _ hlt => hb.block k hlt, hne⟩
  rcases h with h | h
  · exact .inl (key _ h)
  · exact .inr (key _ h)
theorem IsBd.lt {w : World} {B b : Nat} {l : List UInt8} (h : IsBd w B b l) : b < w.heap.size := by
  rcases h with h | h
  · exact h.lt
  · exact h.lt
theorem IsBs.keep {w w' : World} {b : Nat} {S : ByteArray} (h : IsBs w b S) (hb : Below w.heap.size w w') : IsBs w' b S := IsBd.keep h hb
theorem IsBs.lt {w : World} {b : Nat} {S : ByteArray} (h : IsBs w b S) : b < w.heap.size := IsBd.lt h
theorem IsBs.new (w : World) : IsBs (w.alloc (.cells #[.pointer none, .slice none 0 0] 129)) w.heap.size ⟨#[]⟩ := IsBd.new w _ (Nat.le_refl _)
theorem wstr_bs (b : Nat) (S s : ByteArray) (w : World) (h : IsBs w b S) (hl : S.size + s.size ≤ 1000000) :
    Calls Try.prog 74 #[.pointer (some ⟨b, 0, none⟩), .string s] w fun e w' => e = .returned (.tuple #[.int .i64 s.size, .nilIface]) ∧ IsBs w' b (S ++ s) ∧ Below b w w' := by
  refine (wstr_any b b _ s w h (by rw [Array.length_toList]; exact hl) (Nat.le_of_lt h.lt)).mono ?_
  rintro e w' ⟨rfl, h1, h2⟩
  refine ⟨rfl, ?_, h2⟩
  unfold IsBs
  rw [ByteArray.data_append, Array.toList_append]
  exact h1
theorem bstr_bs (b : Nat) (S : ByteArray) (w : World) (h : IsBs w b S) :
    Calls Try.prog 77 #[.pointer (some ⟨b, 0, none⟩)] w fun e w' => e = .returned (.string S) ∧ Below b w w' :=
  bstr_any b b _ w h (Nat.le_of_lt h.lt)


theorem encL_drop (ks vs : List ByteArray) (k : Nat) (h1 : k < ks.length) (h2 : k < vs.length) : encL (ks.drop k) (vs.drop k) = txtB ks[k] vs[k] ++ encL (ks.drop (k + 1)) (vs.drop (k + 1)) := by
  rw [List.drop_eq_getElem_cons h1, List.drop_eq_getElem_cons h2]; rfl
theorem enc_small {d : NodeD} (h : chkN d = 0) : (encD d).size ≤ 960 ∧ mayD d = true := by
  unfold chkN at h
  split at h
  · next hm =>
    split at h
    · cases h
    · next h9 =>
      refine ⟨?_, hm⟩
      have e1 : sizeD d = 2 + szL d.keys d.vals := by unfold sizeD; rw [if_pos hm]
      obtain ⟨E, e, hE, hl⟩ := may_of hm
      have := enc_len d.leaf E hE hl
      rw [← e] at this
      rw [this]
      have e2 : d.keys = E.map (·.1) := by rw [e]; rfl
      have e3 : d.vals = E.map (·.2) := by rw [e]; rfl
      rw [← e2, ← e3]; omega
  · cases h
theorem empty_app (s : ByteArray) : (⟨#[]⟩ : ByteArray) ++ s = s := by apply bl_ext; rw [bl_append]; simp [bl]
theorem two_le (a b : ByteArray) : (a ++ b).size = a.size + b.size := ByteArray.size_append
set_option maxRecDepth 100000 in
set_option maxHeartbeats 2000000 in
theorem encode_any (ka : Option Addr) (kc : Nat) (va : Option Addr) (vc : Nat) (d : NodeD) (w : World) (h : NodeIn w ka va d) (hz : ∀ s ∈ d.keys ++ d.vals, s.size ≤ maxLen) :
    Calls Try.prog 69 #[nodeV ka kc va vc d] w fun e w' => e = .returned (.tuple #[.string (encR d), .int .i64 (chkN d)]) ∧ Below w.heap.size w w' := by
  have H := Lib.hid h
  have HZ := Lib.hid hz
  have hkl := h.kl
  have HB0 : Hid (∀ o, Below w.heap.size w (w.alloc o)) := fun o => (Below.refl _ _).alloc (Nat.le_refl _) o
  clear h hz
  have HV : Hid (Value.agg #[.bool d.leaf, .slice ka d.keys.length kc, .slice va d.vals.length vc] = nodeV ka kc va vc d) := rfl
  obtain ⟨R, hR⟩ : ∃ R, R = encR d := ⟨_, rfl⟩
  obtain ⟨C, hC⟩ : ∃ C, C = chkN d := ⟨_, rfl⟩
  rw [← hR, ← hC]
  unfold nodeV
  go_enter Try.func69, Try.ntmps69
  go_wp2_with fail
  rw [HV.out]
  refine (check_any ka kc va vc d _ (H.out.keep (HB0.out _)) HZ.out).mono ?_
  rintro e w1 ⟨rfl, hb⟩
  rw [← hC]
  have HX : Hid (Box w1 w.heap.size 51 #[.bool d.leaf, .slice ka d.keys.length kc, .slice va d.vals.length vc]) := (Box.new _ _ _).keep hb (by rw [size_alloc]; omega)
  have HB1 := Lib.hid ((HB0.out _).trans (hb.mono (by rw [size_alloc]; omega)))
  clear hb
  by_cases h0 : C = 0
  · have hs := enc_small (hC.symm.trans h0)
    have HR : Hid (R = encD d) := by show _ = _; rw [hR]; unfold encR; rw [if_pos (hC.symm.trans h0)]
    have HM := Lib.hid (may_bounds hs.2)
    have HES := Lib.hid hs.1
    clear hR hC hs
    subst h0
    have k0 : ∀ o, (w1.alloc o).cell? ⟨w.heap.size, 0, none⟩ = some (.bool d.leaf) := fun o => (HX.out.alloc o).cell 0 _ rfl
    have k1 : ∀ o, (w1.alloc o).cell? ⟨w.heap.size, 1, none⟩ = some (.slice ka d.keys.length kc) := fun o => (HX.out.alloc o).cell 1 _ rfl
    have k2 := HX.out.cell 0 _ rfl
    have HXA : Hid (∀ o, Box (w1.alloc o) w.heap.size 51 #[.bool d.leaf, .slice ka d.keys.length kc, .slice va d.vals.length vc]) := fun o => HX.out.alloc o
    have HBA : Hid (∀ o, Below w1.heap.size w1 (w1.alloc o)) := fun o => (Below.refl _ _).alloc (Nat.le_refl _) o
    have HBD : Hid (IsBs (w1.alloc (.cells #[.pointer none, .slice none 0 0] 129)) w1.heap.size ⟨#[]⟩) := IsBs.new w1
    obtain ⟨MB, hMB⟩ : ∃ MB, MB = markB d.leaf := ⟨_, rfl⟩
    have HMB := Lib.hid hMB
    have hms : MB.size = 1 := by rw [hMB]; unfold markB; split <;> rfl
    have hlt1 : w.heap.size < w1.heap.size := HX.out.lt
    have HL1 := Lib.hid hlt1
    have HW : Hid (∀ W : World, Code.wp Try.prog (Code.skip) (fun _ _ _ => True) ⟨#[], []⟩ W → True) := fun _ _ => trivial
    clear hlt1 HW
    have HENC : Hid (encD d = (MB ++ putB d.keys.length 1) ++ encL (d.keys.drop 0) (d.vals.drop 0)) := by show _ = _; rw [hMB]; rfl
    cases hlf : d.leaf
    · have hmb : MB = ⟨#[73]⟩ := by rw [hMB, hlf]; rfl
      rw [hlf] at k0 k2 HX HXA
      have HMBE := Lib.hid hmb
      clear hMB
      subst hmb
      go_wp2_with fail
      refine (put_any d.keys.length 1 _).mono ?_
      rintro e w2 ⟨rfl, hb⟩
      have HP1 := Lib.hid (putB_size d.keys.length 1)
      have HX2 := Lib.hid ((HXA.out _).keep hb (HXA.out _).lt)
      have HBD2 := Lib.hid (HBD.out.keep hb)
      have HB2 := Lib.hid ((HB1.out.trans ((HBA.out _).mono HB1.out.size)).trans (hb.mono (by rw [size_alloc]; have := HL1.out; omega)))
      obtain ⟨bd, hbd⟩ : ∃ bd, bd = w1.heap.size := ⟨_, rfl⟩
      rw [← hbd] at HBD2 ⊢
      have HLB : Hid (w.heap.size < bd) := by rw [hbd]; exact HL1.out
      clear hb HXA HBA HBD k0 k1 k2 hbd HX HB1
      generalize hpb : putB d.keys.length 1 = PB at *
      have HPB := Lib.hid hpb
      clear hpb
      have hps := HP1.out
      have k1 := HX2.out.cell 1 _ rfl
      go_wp2_with fail
      refine (wstr_bs bd ⟨#[]⟩ _ _ HBD2.out (by have := HP1.out; rw [two_le]; show 0 + (1 + PB.size) ≤ 1000000; omega)).mono ?_
      rintro e w3 ⟨rfl, hs3, hb⟩
      have HX3 := Lib.hid (HX2.out.keep hb HLB.out)
      have HB3 := Lib.hid (HB2.out.trans (hb.mono (by have := HLB.out; omega)))
      have HS3 := Lib.hid hs3
      clear hs3 hb HX2 HBD2 HB2 k1
      have k1 := HX3.out.cell 1 _ rfl
      go_wp2_with fail
      go_loopw [7, 25] (fun _ i wr => ∃ (k : Nat) (acc : ByteArray), k ≤ d.keys.length ∧ i = .int .i64 k ∧ Hid (IsBs wr bd acc) ∧ Hid (encD d = acc ++ encL (d.keys.drop k) (d.vals.drop k)) ∧ Hid (Below w.heap.size w wr) ∧ Hid (Box wr w.heap.size 51 #[.bool false, .slice ka d.keys.length kc, .slice va d.vals.length vc])) (fun _ i _ => d.keys.length - (intOf i).toNat)
      case atStart => exact ⟨0, _, Nat.zero_le _, rfl, HS3, by show _ = _; rw [HENC.out, ← HPB.out, empty_app], HB3, HX3⟩
      case round =>
        clear HS3 HB3 HX3 k1
        obtain ⟨k, acc, hk, rfl, HS, HE, HL, HX⟩ := hrel
        by_cases hlt : k < d.keys.length
        · have h2v : k < d.vals.length := by have := HM.out.eq; omega
          have HN := H.out.keep HL.out
          obtain ⟨b, off, hka, hb1, hc⟩ := HN.ks.get k hlt
          obtain ⟨b2, off2, hva, hb2, hc2⟩ := HN.vs.get k h2v
          subst hka hva
          have HD := Lib.hid (encL_drop d.keys d.vals k hlt h2v)
          have z1 := HM.out.ks d.keys[k] (by simp)
          have z2 := HM.out.vs d.vals[k] (by simp)
          have c1 := HX.out.cell 1 _ rfl
          have c2 := HX.out.cell 2 _ rfl
          have h1i : (k : Int) < (d.keys.length : Int) := by omega
          have h2i : (k : Int) < (d.vals.length : Int) := by omega
          have h0i : (0 : Int) ≤ (k : Int) := by omega
          generalize d.keys[k] = x at *
          generalize d.vals[k] = y at *
          have hsz : acc.size + (txtB x y).size ≤ 960 := by
            have h1 := HES.out
            rw [HE.out, HD.out, two_le, two_le] at h1
            omega
          have htx := text_size x 2 (by omega) (by omega) (by omega)
          have hty := text_size y 1 (by omega) (by omega) (by omega)
          rw [show ((2 : Nat) : Int) = 2 from rfl] at htx
          rw [show ((1 : Nat) : Int) = 1 from rfl] at hty
          go_wp2_with fail
          refine wp_region_tree (fun W => W.cell? ⟨w.heap.size, 1, none⟩ = some (.slice (some ⟨b, off, none⟩) d.keys.length kc) ∧ W.cell? ⟨w.heap.size, 2, none⟩ = some (.slice (some ⟨b2, off2, none⟩) d.vals.length vc) ∧ W.cell? ⟨b, off + k, none⟩ = some (.string x) ∧ W.cell? ⟨b2, off2 + k, none⟩ = some (.string y)) 11 (.quiet 0 (.quiet 1 (.quiet 2 (.quiet 3 (.quiet 4 (.quiet 6 (.quiet 7 (.quiet 8 (.quiet 9 (.quiet 10 (.make 5 .nil))))))))))) (by kernel_rfl) (by kernel_rfl) ⟨c1, c2, hc, hc2⟩ ?_
          simp only [List.drop_succ_cons, List.drop_zero]
          iterate 10 (apply wpTr_step rfl; (intro W hS K hK; obtain ⟨q0, q1, q2, q3⟩ := hS; go_simp; exact hK _ rfl))
          refine wpTr_make rfl (fun K' hK => ?_)
          go_simp
          refine (ftext_any x 2 _ (by omega)).mono ?_
          rintro e w5 ⟨rfl, hb5⟩
          have hd := (Below.refl wr.heap.size wr).drew
          have hbx := hd.trans (hb5.mono hd.size)
          have HX5 := Lib.hid (HX.out.keep hbx HX.out.lt)
          have HS5 := Lib.hid (HS.out.keep hbx)
          have HL5 := Lib.hid (HL.out.trans (hbx.mono HL.out.size))
          have k1 := HX5.out.cell 1 _ rfl
          have k2 := HX5.out.cell 2 _ rfl
          have k3 : w5.cell? ⟨b, off + k, none⟩ = some (.string x) := (hbx.cell (p := ⟨b, off + k, none⟩) hb1).trans hc
          have k4 : w5.cell? ⟨b2, off2 + k, none⟩ = some (.string y) := (hbx.cell (p := ⟨b2, off2 + k, none⟩) hb2).trans hc2
          refine hK _ _ _ (fun _ h => h) ⟨k1, k2, k3, k4⟩ ?_
          clear hK K' hb5 hd hbx HN hc hc2 c1 c2
          refine wpTr_nil ?_
          go_wp2_with fail
          refine (ftext_any y 1 _ (by omega)).mono ?_
          rintro e w6 ⟨rfl, hb6⟩
          have HX6 := Lib.hid (HX5.out.keep hb6 HX5.out.lt)
          have HS6 := Lib.hid (HS5.out.keep hb6)
          have HL6 := Lib.hid (HL5.out.trans (hb6.mono HL5.out.size))
          clear hb6 k1 k2 k3 k4
          have hxy : txtB x y = textB x 2 ++ textB y 1 := rfl
          rw [hxy] at HD hsz
          clear hxy
          generalize textB x 2 = tx at *
          generalize textB y 1 = ty at *
          go_wp2_with fail
          refine (wstr_bs bd acc (tx ++ ty) _ HS6.out (by omega)).mono ?_
          rintro e w7 ⟨rfl, hs7, hb7⟩
          have HX7 := Lib.hid (HX6.out.keep hb7 HLB.out)
          have HS7 := Lib.hid hs7
          have HL7 := Lib.hid (HL6.out.trans (hb7.mono (by have := HLB.out; omega)))
          have HE7 : Hid (encD d = (acc ++ (tx ++ ty)) ++ encL (d.keys.drop (k + 1)) (d.vals.drop (k + 1))) := by show _ = _; rw [HE.out, HD.out]; simp only [ByteArray.append_assoc]
          clear hs7 hb7
          go_wp2
          go_roundw
          case rel => exact ⟨k + 1, _, by omega, by go_num, HS7, HE7, HL7, HX7⟩
          case measure => simp [intOf]; omega
        · have hkl : k = d.keys.length := by omega
          have HAC : Hid (R = acc) := by
            show _ = _
            have h1 := HM.out.eq
            rw [HR.out, HE.out, List.drop_of_length_le (by omega), List.drop_of_length_le (by omega), encL_nil]
            apply bl_ext; rw [bl_append]; simp [bl]
          subst hkl
          go_wp2_with fail
          refine (bstr_bs bd acc _ HS.out).mono ?_
          rintro e w5 ⟨rfl, hb⟩
          have HL5 := Lib.hid (HL.out.trans (hb.mono (by have := HLB.out; omega)))
          clear hb
          go_wp2
          go_ret2
          exact ⟨by rw [HAC.out]; rfl, HL5.out⟩
    · have hmb : MB = ⟨#[76]⟩ := by rw [hMB, hlf]; rfl
      rw [hlf] at k0 k2 HX HXA
      have HMBE := Lib.hid hmb
      clear hMB
      subst hmb
      go_wp2_with fail
      refine (put_any d.keys.length 1 _).mono ?_
      rintro e w2 ⟨rfl, hb⟩
      have HP1 := Lib.hid (putB_size d.keys.length 1)
      have HX2 := Lib.hid ((HXA.out _).keep hb (HXA.out _).lt)
      have HBD2 := Lib.hid (HBD.out.keep hb)
      have HB2 := Lib.hid ((HB1.out.trans ((HBA.out _).mono HB1.out.size)).trans (hb.mono (by rw [size_alloc]; have := HL1.out; omega)))
      obtain ⟨bd, hbd⟩ : ∃ bd, bd = w1.heap.size := ⟨_, rfl⟩
      rw [← hbd] at HBD2 ⊢
      have HLB : Hid (w.heap.size < bd) := by rw [hbd]; exact HL1.out
      clear hb HXA HBA HBD k0 k1 k2 hbd HX HB1
      generalize hpb : putB d.keys.length 1 = PB at *
      have HPB := Lib.hid hpb
      clear hpb
      have hps := HP1.out
      have k1 := HX2.out.cell 1 _ rfl
      go_wp2_with fail
      refine (wstr_bs bd ⟨#[]⟩ _ _ HBD2.out (by have := HP1.out; rw [two_le]; show 0 + (1 + PB.size) ≤ 1000000; omega)).mono ?_
      rintro e w3 ⟨rfl, hs3, hb⟩
      have HX3 := Lib.hid (HX2.out.keep hb HLB.out)
      have HB3 := Lib.hid (HB2.out.trans (hb.mono (by have := HLB.out; omega)))
      have HS3 := Lib.hid hs3
      clear hs3 hb HX2 HBD2 HB2 k1
      have k1 := HX3.out.cell 1 _ rfl
      go_wp2_with fail
      go_loopw [7, 25] (fun _ i wr => ∃ (k : Nat) (acc : ByteArray), k ≤ d.keys.length ∧ i = .int .i64 k ∧ Hid (IsBs wr bd acc) ∧ Hid (encD d = acc ++ encL (d.keys.drop k) (d.vals.drop k)) ∧ Hid (Below w.heap.size w wr) ∧ Hid (Box wr w.heap.size 51 #[.bool true, .slice ka d.keys.length kc, .slice va d.vals.length vc])) (fun _ i _ => d.keys.length - (intOf i).toNat)
      case atStart => exact ⟨0, _, Nat.zero_le _, rfl, HS3, by show _ = _; rw [HENC.out, ← HPB.out, empty_app], HB3, HX3⟩
      case round =>
        clear HS3 HB3 HX3 k1
        obtain ⟨k, acc, hk, rfl, HS, HE, HL, HX⟩ := hrel
        by_cases hlt : k < d.keys.length
        · have h2v : k < d.vals.length := by have := HM.out.eq; omega
          have HN := H.out.keep HL.out
          obtain ⟨b, off, hka, hb1, hc⟩ := HN.ks.get k hlt
          obtain ⟨b2, off2, hva, hb2, hc2⟩ := HN.vs.get k h2v
          subst hka hva
          have HD := Lib.hid (encL_drop d.keys d.vals k hlt h2v)
          have z1 := HM.out.ks d.keys[k] (by simp)
          have z2 := HM.out.vs d.vals[k] (by simp)
          have c1 := HX.out.cell 1 _ rfl
          have c2 := HX.out.cell 2 _ rfl
          have h1i : (k : Int) < (d.keys.length : Int) := by omega
          have h2i : (k : Int) < (d.vals.length : Int) := by omega
          have h0i : (0 : Int) ≤ (k : Int) := by omega
          generalize d.keys[k] = x at *
          generalize d.vals[k] = y at *
          have hsz : acc.size + (txtB x y).size ≤ 960 := by
            have h1 := HES.out
            rw [HE.out, HD.out, two_le, two_le] at h1
            omega
          have htx := text_size x 2 (by omega) (by omega) (by omega)
          have hty := text_size y 1 (by omega) (by omega) (by omega)
          rw [show ((2 : Nat) : Int) = 2 from rfl] at htx
          rw [show ((1 : Nat) : Int) = 1 from rfl] at hty
          go_wp2_with fail
          refine wp_region_tree (fun W => W.cell? ⟨w.heap.size, 1, none⟩ = some (.slice (some ⟨b, off, none⟩) d.keys.length kc) ∧ W.cell? ⟨w.heap.size, 2, none⟩ = some (.slice (some ⟨b2, off2, none⟩) d.vals.length vc) ∧ W.cell? ⟨b, off + k, none⟩ = some (.string x) ∧ W.cell? ⟨b2, off2 + k, none⟩ = some (.string y)) 11 (.quiet 0 (.quiet 1 (.quiet 2 (.quiet 3 (.quiet 4 (.quiet 6 (.quiet 7 (.quiet 8 (.quiet 9 (.quiet 10 (.make 5 .nil))))))))))) (by kernel_rfl) (by kernel_rfl) ⟨c1, c2, hc, hc2⟩ ?_
          simp only [List.drop_succ_cons, List.drop_zero]
          iterate 10 (apply wpTr_step rfl; (intro W hS K hK; obtain ⟨q0, q1, q2, q3⟩ := hS; go_simp; exact hK _ rfl))
          refine wpTr_make rfl (fun K' hK => ?_)
          go_simp
          refine (ftext_any x 2 _ (by omega)).mono ?_
          rintro e w5 ⟨rfl, hb5⟩
          have hd := (Below.refl wr.heap.size wr).drew
          have hbx := hd.trans (hb5.mono hd.size)
          have HX5 := Lib.hid (HX.out.keep hbx HX.out.lt)
          have HS5 := Lib.hid (HS.out.keep hbx)
          have HL5 := Lib.hid (HL.out.trans (hbx.mono HL.out.size))
          have k1 := HX5.out.cell 1 _ rfl
          have k2 := HX5.out.cell 2 _ rfl
          have k3 : w5.cell? ⟨b, off + k, none⟩ = some (.string x) := (hbx.cell (p := ⟨b, off + k, none⟩) hb1).trans hc
          have k4 : w5.cell? ⟨b2, off2 + k, none⟩ = some (.string y) := (hbx.cell (p := ⟨b2, off2 + k, none⟩) hb2).trans hc2
          refine hK _ _ _ (fun _ h => h) ⟨k1, k2, k3, k4⟩ ?_
          clear hK K' hb5 hd hbx HN hc hc2 c1 c2
          refine wpTr_nil ?_
          go_wp2_with fail
          refine (ftext_any y 1 _ (by omega)).mono ?_
          rintro e w6 ⟨rfl, hb6⟩
          have HX6 := Lib.hid (HX5.out.keep hb6 HX5.out.lt)
          have HS6 := Lib.hid (HS5.out.keep hb6)
          have HL6 := Lib.hid (HL5.out.trans (hb6.mono HL5.out.size))
          clear hb6 k1 k2 k3 k4
          have hxy : txtB x y = textB x 2 ++ textB y 1 := rfl
          rw [hxy] at HD hsz
          clear hxy
          generalize textB x 2 = tx at *
          generalize textB y 1 = ty at *
          go_wp2_with fail
          refine (wstr_bs bd acc (tx ++ ty) _ HS6.out (by omega)).mono ?_
          rintro e w7 ⟨rfl, hs7, hb7⟩
          have HX7 := Lib.hid (HX6.out.keep hb7 HLB.out)
          have HS7 := Lib.hid hs7
          have HL7 := Lib.hid (HL6.out.trans (hb7.mono (by have := HLB.out; omega)))
          have HE7 : Hid (encD d = (acc ++ (tx ++ ty)) ++ encL (d.keys.drop (k + 1)) (d.vals.drop (k + 1))) := by show _ = _; rw [HE.out, HD.out]; simp only [ByteArray.append_assoc]
          clear hs7 hb7
          go_wp2
          go_roundw
          case rel => exact ⟨k + 1, _, by omega, by go_num, HS7, HE7, HL7, HX7⟩
          case measure => simp [intOf]; omega
        · have hkl : k = d.keys.length := by omega
          have HAC : Hid (R = acc) := by
            show _ = _
            have h1 := HM.out.eq
            rw [HR.out, HE.out, List.drop_of_length_le (by omega), List.drop_of_length_le (by omega), encL_nil]
            apply bl_ext; rw [bl_append]; simp [bl]
          subst hkl
          go_wp2_with fail
          refine (bstr_bs bd acc _ HS.out).mono ?_
          rintro e w5 ⟨rfl, hb⟩
          have HL5 := Lib.hid (HL.out.trans (hb.mono (by have := HLB.out; omega)))
          clear hb
          go_wp2
          go_ret2
          exact ⟨by rw [HAC.out]; rfl, HL5.out⟩

  · have HR : Hid (R = ⟨#[]⟩) := by show _ = _; rw [hR]; unfold encR; rw [if_neg (fun h => h0 (hC.trans h))]
    have hce : (C == 0) = false := by rw [beq_eq_false_iff_ne]; exact h0
    clear hR hC
    go_wp2
    go_ret2
    exact ⟨by rw [HR.out]; rfl, HB1.out⟩
end Go.Proofs.Ytbeldjijnjgbfaa
