/-
  Texts put together: SeLive, SePlain.
-/
import Derived.Test.YtopinlnjdgedeaaDoorMg41
import Derived.Test.YtopinlnjdgedeaaDoorSeQ
import Derived.Test.YtopinlnjdgedeaaDoorMg0
namespace Go.Proofs.YtopinlnjdgedeaaDoor
open Go Go.RowKit Go.ChangeShapes Go.WideShapes Go.ChangeAt

theorem pos_of {F : FedL} {f n N c : Nat} {d : DevD} {x : SecD} (h : FdS F f n N c d x) : ∀ k y, findS x.e k = some y → y.pos = k ∧ 0 ≤ k ∧ k < 1000 := h.pos
theorem big_of {d : DevD} (h : Tiny d) : ∀ l, (tellD d l).size ≤ 140737488355328 := fun l => Nat.le_trans (h.tell l) (by decide)
theorem mil_of {d : DevD} (h : Tiny d) : ∀ l, (tellD d l).size ≤ 1000000 := fun l => Nat.le_trans (h.tell l) (by decide)
theorem cgs_len {e : TypeId} {w : World} {b : Nat} {v : Value} {l : List CgE} (h : Cgs e w b v l) : ∃ a cap, v = .slice a l.length cap := by
  obtain ⟨a, cap, e, _⟩ := h.view
  exact ⟨a, cap, e⟩

set_option maxRecDepth 100000 in
set_option maxHeartbeats 4000000 in
theorem live14 (w : World) (hK : Kt w) : Calls Tryd.prog 8 #[] w fun e w' => e = .returned (.bool true) ∧ Below w.heap.size w w' := by
  have HK := Lib.hid hK
  have HBP := Lib.hid hK.pos
  obtain ⟨B, hB⟩ : ∃ B, B = w.heap.size := ⟨_, rfl⟩
  have HB := Lib.hid hB
  have HBP2 : Hid (0 < B) := by show 0 < B; rw [hB]; exact HBP.out
  have HNEW := Lib.hid (one_new B fixed_no 4 20 w (Nat.le_of_eq hB) ⟨[], rfl, fun k hk => by cases hk⟩ (by decide) (by decide))
  have HF1 := Lib.hid (fun (s b : Nat) (x : SecD) => fixed_both fixed_no (fixed_sc s b x))
  clear hK hB
  go_enter Tryd.func8, Tryd.ntmps8
  go_wp2_with fail
  refine HNEW.out.mono ?_
  rintro e w1 ⟨b, rfl, ho, hb⟩
  have HO := Lib.hid (show One B NoP b LD0 w1 from ho)
  have HBL := Lib.hid hb
  clear ho hb HNEW
  have HOP := Lib.hid (open_ok fixed_no HO.out 4 10 (by decide) (by decide) (by decide) (HK.out.below HBL.out HBP2.out) HBP2.out (mil_of (Tiny.new 4 20)))
  go_wp2_with fail
  refine HOP.out.mono ?_
  rintro e w2 ⟨s, rfl, ho, hb⟩
  have HO2 : Hid (One B (Both NoP (ScF s b LX0)) b LD0 w2) := by
    have h1 := ho
    rw [show recX LD0 (newX 4 10) = LX0 from lv_rec] at h1
    exact h1
  have HBL2 := Lib.hid (HBL.out.trans hb)
  clear ho hb HOP HO HBL
  have HFE := Lib.hid (feed_any fixed_no HO2.out (show (4 : Nat) ≤ 512 by decide) (show (10 : Nat) ≤ 512 by decide) (show 2 ≤ 10 by decide) (HK.out.below HBL2.out HBP2.out) HBP2.out (show (0 : Nat) ≤ 512 by decide) (show (0 : Nat) ≤ 80000 by decide) (show (0 : Nat) ≤ 10000 by decide) kB helloB)
  rw [lv_feed.1] at HFE
  go_wp2_with fail
  refine HFE.out.mono ?_
  rintro e w3 ⟨rfl, ho, hb⟩
  have HO3 := Lib.hid ho
  have HBL3 := Lib.hid (HBL2.out.trans hb)
  clear ho hb HFE HO2 HBL2
  have hw1 : LD1.waits.length ≤ 80000 := Nat.le_trans lv_st.few (by decide)
  have hh1 : LX1.hand ≤ 512 := by rw [lv_st.hand]; exact Nat.le_trans (Nat.le_of_lt (Nat.mod_lt _ (by decide))) (by decide)
  have he1 : LX1.e.length ≤ 10000 := Nat.le_trans lv_st.len (by decide)
  have hf1 : LX1.f ≤ 512 := by rw [lv_st.hf]; decide
  have hn1 : LX1.n ≤ 512 := by rw [lv_st.hn]; decide
  have hn2 : 2 ≤ LX1.n := by rw [lv_st.hn]; decide
  have HC1 := Lib.hid (And.intro hw1 (And.intro hh1 (And.intro he1 (And.intro hf1 (And.intro hn1 hn2)))))
  have HFE := Lib.hid (feed_any fixed_no HO3.out hf1 hn1 hn2 (HK.out.below HBL3.out HBP2.out) HBP2.out hh1 hw1 he1 kB otherB)
  rw [lv_other] at HFE
  clear hw1 hh1 he1 hf1 hn1 hn2
  go_wp2_with fail
  refine HFE.out.mono ?_
  rintro e w4 ⟨rfl, ho, hb⟩
  have HO4 := Lib.hid ho
  have HBL4 := Lib.hid (HBL3.out.trans hb)
  clear ho hb HFE HO3 HBL3
  have HFI := Lib.hid (find_any fixed_no HO4.out HC1.out.2.2.2.1 HC1.out.2.2.2.2.1 kB (HK.out.below HBL4.out HBP2.out) HBP2.out (big_of lv_tiny1) lv_st.pos)
  rw [lv_find1] at HFI
  go_wp2_with fail
  refine HFI.out.mono ?_
  rintro e w5 ⟨rfl, ho, hb⟩
  have HO5 := Lib.hid ho
  have HBL5 := Lib.hid (HBL4.out.trans hb)
  clear ho hb HFI HO4 HBL4
  have HFI := Lib.hid (find_any fixed_no HO5.out HC1.out.2.2.2.1 HC1.out.2.2.2.2.1 lB (HK.out.below HBL5.out HBP2.out) HBP2.out (big_of lv_tiny1) lv_st.pos)
  rw [lv_findl] at HFI
  go_wp2_with fail
  refine HFI.out.mono ?_
  rintro e w6 ⟨rfl, ho, hb⟩
  have HO6 := Lib.hid ho
  have HBL6 := Lib.hid (HBL5.out.trans hb)
  clear ho hb HFI HO5 HBL5
  have HFL := Lib.hid (one_flush (HF1.out s b LX1) HO6.out (Nat.le_trans lv_st.few (by decide)))
  go_wp2_with fail
  refine HFL.out.mono ?_
  rintro e w7 ⟨rfl, ho, hb⟩
  have HO7 : Hid (One B (Both NoP (ScF s b LX1)) b LD2 w7) := ho
  have HBL7 := Lib.hid (HBL6.out.trans hb)
  clear ho hb HFL HO6 HBL6
  have HOP := Lib.hid (open_ok (HF1.out s b LX1) HO7.out 4 10 (by decide) (by rw [lv_dv2.size]; decide) (by rw [lv_dv2.size]; decide) (HK.out.below HBL7.out HBP2.out) HBP2.out (mil_of lv_tiny2))
  go_wp2_with fail
  refine HOP.out.mono ?_
  rintro e w8 ⟨k, rfl, ho, hb⟩
  have HO8 : Hid (One B (Both (Both NoP (ScF s b LX1)) (ScF k b LXK)) b LD2 w8) := ho
  have HBL8 := Lib.hid (HBL7.out.trans hb)
  clear ho hb HOP HO7 HBL7
  have HFI := Lib.hid (find_any (HF1.out s b LX1) HO8.out (show LXK.f ≤ 512 from by rw [show LXK.f = 4 from (lk_f _ _).1]; decide) (show LXK.n ≤ 512 from by rw [show LXK.n = 10 from (lk_f _ _).2]; decide) kB (HK.out.below HBL8.out HBP2.out) HBP2.out (big_of lv_tiny2) lv_posk)
  rw [lv_findk] at HFI
  go_wp2_with fail
  refine HFI.out.mono ?_
  rintro e w9 ⟨rfl, ho, hb⟩
  have HO9 := Lib.hid ho
  have HBL9 := Lib.hid (HBL8.out.trans hb)
  clear ho hb HFI HO8 HBL8
  have HSP := Lib.hid (one_spoil (fixed_both (HF1.out s b LX1) (fixed_sc k b LXK)) HO9.out (1, 5) badB (by rw [show LD2.waits = [] from rfl]; decide))
  unfold locV at HSP
  go_wp2_with fail
  refine HSP.out.mono ?_
  rintro e w10 ⟨rfl, ho, hb⟩
  have HO10 : Hid (One B (Both (Both NoP (ScF s b LX1)) (ScF k b LXK)) b LD3 w10) := ho
  have HBL10 := Lib.hid (HBL9.out.trans hb)
  clear ho hb HSP HO9 HBL9
  have HFI := Lib.hid (find_any (HF1.out s b LX1) HO10.out (show LXK.f ≤ 512 from by rw [show LXK.f = 4 from (lk_f _ _).1]; decide) (show LXK.n ≤ 512 from by rw [show LXK.n = 10 from (lk_f _ _).2]; decide) kB (HK.out.below HBL10.out HBP2.out) HBP2.out (big_of lv_tiny3) lv_posk)
  rw [lv_findq] at HFI
  go_wp2_with fail
  refine HFI.out.mono ?_
  rintro e w11 ⟨rfl, ho, hb⟩
  have HO11 : Hid (One B (Both (Both NoP (ScF s b LX1)) (ScF k b LXQ)) b LD3 w11) := ho
  have HBL11 := Lib.hid (HBL10.out.trans hb)
  clear ho hb HFI HO10 HBL10
  have c1 : (helloB.toList == [104, 101, 108, 108, 111]) = true := by rw [ByteArray.toList_eq]; rfl
  have HRO : Hid (Calls Tryd.prog 14 #[.pointer (some ⟨s, 0, none⟩)] w11 fun e w' => e = .returned (.int .i64 8) ∧ Below w11.heap.size w11 w') := by
    obtain ⟨m, hs, _⟩ := HO11.out.swapSc.secE (fixed_both fixed_no (fixed_sc k b LXQ))
    have := room_any s b m LX1 w11 hs.box HC1.out.2.2.2.2.1
    rw [lv_st.hn, lv_room] at this
    exact this
  go_wp2_with fail
  refine HRO.out.mono ?_
  rintro e w12 ⟨rfl, hb⟩
  have HO12 := Lib.hid (HO11.out.keep (fixed_both (HF1.out s b LX1) (fixed_sc k b LXQ)) hb)
  have HBL12 := Lib.hid (HBL11.out.trans (hb.mono HO11.out.1))
  clear hb HRO HO11 HBL11
  have HEN := Lib.hid (entries_any (fixed_both fixed_no (fixed_sc k b LXQ)) HO12.out.swapSc HC1.out.2.2.2.1 HC1.out.2.2.2.2.1)
  go_wp2_with fail
  refine HEN.out.mono ?_
  rintro e w13 ⟨v, rfl, hc, hb⟩
  obtain ⟨va, vc, rfl⟩ := cgs_len hc
  rw [lv_len1]
  have HO13 := Lib.hid (HO12.out.keep (fixed_both (HF1.out s b LX1) (fixed_sc k b LXQ)) hb)
  have HBL13 := Lib.hid (HBL12.out.trans (hb.mono HO12.out.1))
  clear hb hc HEN HO12 HBL12
  have HEN := Lib.hid (entries_any (HF1.out s b LX1) HO13.out (show LXQ.f ≤ 512 from by rw [show LXQ.f = 4 from (lk_f _ _).1]; decide) (show LXQ.n ≤ 512 from by rw [show LXQ.n = 10 from (lk_f _ _).2]; decide))
  go_wp2_with fail
  refine HEN.out.mono ?_
  rintro e w14 ⟨v, rfl, hc, hb⟩
  obtain ⟨ka, kc, rfl⟩ := cgs_len hc
  rw [lv_len0]
  have HO14 := Lib.hid (HO13.out.keep (fixed_both (HF1.out s b LX1) (fixed_sc k b LXQ)) hb)
  have HBL14 := Lib.hid (HBL13.out.trans (hb.mono HO13.out.1))
  clear hb hc HEN HO13 HBL13
  have hz3 : devSize LD3 1 = 20 := by rw [(lv_size3 1).1]; exact lv_dv2.size
  have HOF := Lib.hid (open_far HO14.out 4 17 (by decide) (by rw [hz3]; decide) (by decide) (by decide) (by rw [hz3]; decide))
  clear hz3
  go_wp2_with fail
  refine HOF.out.mono ?_
  rintro e w15 ⟨rfl, rfl⟩
  go_wp2_with fail
  refine (open_none _).mono ?_
  rintro e w15 ⟨rfl, rfl⟩
  have hw3 : LD3.waits.length ≤ 80000 := by
    have e3 : LD3.waits = [] := by
      unfold LD3 spoilD
      rw [if_pos lv_chk3]
      exact (rfl : keepL (fun x : WrD => (fun y : Int × Int => y.1 == ((1, 5) : Int × Int).1 && y.2 == ((1, 5) : Int × Int).2) x.1) [] = [])
    rw [e3]
    decide
  have HFE := Lib.hid (feed_any (fixed_both fixed_no (fixed_sc k b LXQ)) HO14.out.swapSc HC1.out.2.2.2.1 HC1.out.2.2.2.2.1 HC1.out.2.2.2.2.2 (HK.out.below HBL14.out HBP2.out) HBP2.out HC1.out.2.1 hw3 HC1.out.2.2.1 ⟨#[]⟩ ⟨#[120]⟩)
  rw [feedX_no (d := LD3) (x := LX1) (key := ⟨#[]⟩) (load := ⟨#[120]⟩) (.inl (by decide))] at HFE
  clear hw3
  go_wp2_with fail
  refine HFE.out.mono ?_
  rintro e w16 ⟨rfl, ho, hb⟩
  have HBL16 := Lib.hid (HBL14.out.trans hb)
  clear ho hb
  go_wp2
  go_ret
  exact ⟨rfl, by rw [← HB.out]; exact HBL16.out⟩
end Go.Proofs.YtopinlnjdgedeaaDoor

namespace Go.Proofs.YtopinlnjdgedeaaDoor
open Go Go.RowKit Go.ChangeShapes Go.WideShapes Go.ChangeAt

theorem keyF_at {l : List FdD} {i : Nat} (h : i < l.length) : keyF l i = (l[i]).1 ∧ txtF l i = (l[i]).2 := by
  unfold keyF txtF
  rw [List.getD, List.getElem?_eq_getElem h]
  exact ⟨rfl, rfl⟩
/-- The first i may be fed, and have keys of their own. -/
def PlK (l : List FdD) (i : Nat) : Prop := ∀ a, a < i → mayF (keyF l a) (txtF l a) ∧ ∀ b, b < a → keyF l b ≠ keyF l a
theorem plk_ok {l : List FdD} (h : PlK l l.length) (hl : l.length ≤ 30) : FedOk l := by
  refine ⟨fun i hi => (h i hi).1, fun i j hi hj e => ?_, by omega⟩
  rcases Nat.lt_trichotomy i j with h1 | h1 | h1
  · exact absurd e ((h j hj).2 i h1)
  · exact h1
  · exact absurd e.symm ((h i hi).2 j h1)
def PlRes (l : List FdD) (e : Ending) : Prop := ∃ r : Bool, e = .returned (.bool r) ∧ (r = true → FedOk l ∧ l.length ≤ 30)
theorem list_eqF {a b : ByteArray} (h : a ≠ b) : (a.toList == b.toList) = false := by
  rw [beq_eq_false_iff_ne]
  intro e
  apply h
  rw [ByteArray.toList_eq, ByteArray.toList_eq] at e
  exact ByteArray.ext (Array.toList_inj.1 e)
theorem wrap_next {i n : Nat} (h : i < n) (hn : n ≤ maxLen) : wrap64 ((i : Int) + 1) = i + 1 := IntWalk.wrap64_in _ (by unfold maxLen at hn; omega)

set_option maxRecDepth 100000 in
set_option maxHeartbeats 2000000 in
theorem plain_any (x : Option Addr) (c : Nat) (l : List FdD) (w : World) (hs : SlE w 2 FdK x l) (hm : l.length ≤ maxLen) :
    Calls Tryd.prog 7 #[.slice x l.length c] w fun e w' => PlRes l e ∧ Below w.heap.size w w' := by
  have HS := Lib.hid hs
  have HM := Lib.hid hm
  clear hs hm
  go_enter Tryd.func7, Tryd.ntmps7
  go_wp2
  go_loopw [3] (fun iv wr => ∃ i : Nat, i ≤ l.length ∧ iv = .int .i64 i ∧ Hid (Below w.heap.size w wr) ∧ Hid (PlK l i)) (fun iv _ => l.length - (RowKit.intOf iv).toNat)
  case atStart => exact ⟨0, Nat.zero_le _, rfl, Below.refl _ _, fun a h => absurd h (Nat.not_lt_zero a)⟩
  case round =>
    obtain ⟨i, hi, rfl, HB, HP⟩ := hrel
    by_cases hlt : i < l.length
    · obtain ⟨b, off, rfl, hb, c0, c1⟩ := HS.out.fed HB.out i hlt
      have hw1 := wrap_next hlt HM.out
      have hki := keyF_at hlt
      have HLT := Lib.hid hlt
      have hi0 : (0 : Int) ≤ (i : Int) := by omega
      have hil : (i : Int) < (l.length : Int) := by omega
      rw [← hki.1] at c0
      rw [← hki.2] at c1
      clear hki hlt hb
      by_cases k1 : (keyF l i).size < 1
      · have d1 : ((keyF l i).size : Int) < 1 := by omega
        clear k1
        go_wp2
        go_ret
        exact ⟨⟨_, rfl, fun h => by cases h⟩, HB.out⟩
      · by_cases k2 : 60 < (keyF l i).size
        · have d1 : ¬ ((keyF l i).size : Int) < 1 := by omega
          have d2 : (60 : Int) < ((keyF l i).size : Int) := by omega
          clear k1 k2
          go_wp2
          go_ret
          exact ⟨⟨_, rfl, fun h => by cases h⟩, HB.out⟩
        · by_cases k3 : 960 < (txtF l i).size
          · have d1 : ¬ ((keyF l i).size : Int) < 1 := by omega
            have d2 : ¬ (60 : Int) < ((keyF l i).size : Int) := by omega
            have d3 : (960 : Int) < ((txtF l i).size : Int) := by omega
            clear k1 k2 k3
            go_wp2
            go_ret
            exact ⟨⟨_, rfl, fun h => by cases h⟩, HB.out⟩
          · have d1 : ¬ ((keyF l i).size : Int) < 1 := by omega
            have d2 : ¬ (60 : Int) < ((keyF l i).size : Int) := by omega
            have d3 : ¬ (960 : Int) < ((txtF l i).size : Int) := by omega
            have HMAY : Hid (mayF (keyF l i) (txtF l i)) := ⟨by omega, by omega, by omega⟩
            clear k1 k2 k3
            go_wp2
            rename_i hj hK hc
            clear d1 d2 d3
            go_loopw [4] (fun kv wr => ∃ k : Nat, k ≤ i ∧ kv = .int .i64 k ∧ Hid (Below w.heap.size w wr) ∧ Hid (∀ b, b < k → keyF l b ≠ keyF l i)) (fun kv _ => i - (RowKit.intOf kv).toNat)
            case atStart => exact ⟨0, Nat.zero_le _, rfl, HB, fun a h => absurd h (Nat.not_lt_zero a)⟩
            case round =>
              clear HB
              obtain ⟨k, hk, rfl, HB, HN⟩ := hrel
              by_cases hkl : k < i
              · obtain ⟨bk, offk, ek, hbk, ck0, ck1⟩ := HS.out.fed HB.out k (by have := HLT.out; omega)
                injection ek with ek
                injection ek with ek1 ek2 _
                subst ek1
                subst ek2
                have hkk := keyF_at (l := l) (i := k) (by have := HLT.out; omega)
                rw [← hkk.1] at ck0
                have hw2 : wrap64 ((k : Int) + 1) = k + 1 := wrap_next hkl (Nat.le_trans hi HM.out)
                have HKL := Lib.hid hkl
                have hk0 : (0 : Int) ≤ (k : Int) := by omega
                have hkI : (k : Int) < (i : Int) := by omega
                have hkl2 : (k : Int) < (l.length : Int) := by have := HLT.out; omega
                have ci0 : wr.cell? ⟨b, off + i * 2, none⟩ = some (.string (keyF l i)) := by
                  obtain ⟨b3, off3, e3, _, c3, _⟩ := HS.out.fed HB.out i HLT.out
                  injection e3 with e3
                  injection e3 with e31 e32 _
                  subst e31
                  subst e32
                  rw [(keyF_at HLT.out).1]
                  exact c3
                have HBD : Hid (Below w.heap.size w wr.drew) := HB.out.drew
                clear hkk ck1 hbk c0 c1 hkl
                by_cases he : keyF l k = keyF l i
                · have d1 : ((keyF l k).toList == (keyF l i).toList) = true := by rw [he]; exact beq_self_eq_true _
                  clear he
                  go_wp2_with fail
                  refine wp_region_tree (fun W => W.cell? ⟨b, off + k * 2, none⟩ = some (.string (keyF l k)) ∧ W.cell? ⟨b, off + i * 2, none⟩ = some (.string (keyF l i))) 10 (.quiet 0 (.quiet 1 (.quiet 2 (.quiet 3 (.quiet 4 (.quiet 5 (.quiet 6 (.quiet 7 (.quiet 8 (.quiet 9 .nil)))))))))) (by kernel_rfl) (by kernel_rfl) ⟨ck0, ci0⟩ ?_
                  simp only [List.drop_succ_cons, List.drop_zero]
                  iterate 10 (apply wpTr_step rfl; (intro W hS K hK; obtain ⟨r1, r2⟩ := hS; go_simp; exact hK _ rfl))
                  refine wpTr_nil ?_
                  go_wp2
                  go_ret
                  exact ⟨⟨_, rfl, fun h => by cases h⟩, HBD.out⟩
                · have d1 := list_eqF he
                  have HNX : Hid (∀ b, b < k + 1 → keyF l b ≠ keyF l i) := fun a ha => by
                    by_cases e : a = k
                    · rw [e]; exact he
                    · exact HN.out a (by omega)
                  clear he
                  go_wp2_with fail
                  refine wp_region_tree (fun W => W.cell? ⟨b, off + k * 2, none⟩ = some (.string (keyF l k)) ∧ W.cell? ⟨b, off + i * 2, none⟩ = some (.string (keyF l i))) 10 (.quiet 0 (.quiet 1 (.quiet 2 (.quiet 3 (.quiet 4 (.quiet 5 (.quiet 6 (.quiet 7 (.quiet 8 (.quiet 9 .nil)))))))))) (by kernel_rfl) (by kernel_rfl) ⟨ck0, ci0⟩ ?_
                  simp only [List.drop_succ_cons, List.drop_zero]
                  iterate 10 (apply wpTr_step rfl; (intro W hS K hK; obtain ⟨r1, r2⟩ := hS; go_simp; exact hK _ rfl))
                  refine wpTr_nil ?_
                  go_wp2
                  go_roundw
                  case rel => exact ⟨k + 1, HKL.out, by rw [hw2]; rfl, HBD, HNX⟩
                  case measure => exact meas_lt HKL.out hw2
              · obtain rfl : k = i := by omega
                have HPX : Hid (PlK l (k + 1)) := fun a ha => by
                  by_cases e : a = k
                  · subst e; exact ⟨HMAY.out, HN.out⟩
                  · exact HP.out a (by omega)
                clear c0 c1
                go_wp2
                go_roundw
                case rel => exact ⟨k + 1, HLT.out, by rw [hw1]; rfl, HB, HPX⟩
                case measure => exact meas_lt HLT.out hw1
    · obtain rfl : i = l.length := by omega
      by_cases hl : l.length ≤ 30
      · have d1 : ((l.length : Nat) : Int) ≤ 30 := by omega
        have HOK := Lib.hid (And.intro (plk_ok HP.out hl) hl)
        clear hl
        go_wp2
        go_ret
        exact ⟨⟨_, rfl, fun _ => HOK.out⟩, HB.out⟩
      · have d1 : ¬ ((l.length : Nat) : Int) ≤ 30 := by omega
        clear hl
        go_wp2
        go_ret
        exact ⟨⟨_, rfl, fun h => by simp at h⟩, HB.out⟩
end Go.Proofs.YtopinlnjdgedeaaDoor
