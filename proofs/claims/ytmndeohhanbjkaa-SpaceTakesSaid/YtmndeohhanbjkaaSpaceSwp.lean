/-
  Contracts of package space: Grow, Concat, swapped.
-/
import Derived.Test.YtmndeohhanbjkaaSpaceCat
import Derived.Deep.AppendSrc
namespace Go.Proofs.Ytmndeohhanbjkaa
open Go.RowKit Go.ChangeShapes Go.WideShapes Go.ChangeAt

set_option maxRecDepth 100000 in
set_option maxHeartbeats 2000000 in
theorem swapped_none (lv : Value) (l : List (Int × Int)) (f t : Nat)  (w : World) (b0 : Nat) (hl : Prs 46 w b0 lv l) (hlen : l.length ≤ 1000) (hft : f ≤ t) (ht : t ≤ l.length) :
    Calls Try.prog 29 #[lv, .int .i64 f, .int .i64 t, .slice none 0 0] w fun e w' => ∃ v, e = .returned v ∧ Prs 46 w' w.heap.size v (l.take f ++ l.drop t) ∧ Below w.heap.size w w' := by
  rcases hl.view with ⟨rfl, rfl⟩ | ⟨g, cap, rfl, hc, hm, hg0, hgl, hcell⟩
  · obtain rfl : t = 0 := by simpa using ht
    obtain rfl : f = 0 := by omega
    clear hl
    go_enter Try.func29, Try.ntmps29
    go_wp2_with (with_reducible refine wp_prs_same Try.underlying25 two_S _ rfl (.tmp 13) (.tmp 14) rfl _ 0 0 rfl ?nc1 rfl ?nc2)
    case nc1 => exact Nat.le_refl _
    go_wp2_with fail
    refine (concat_len _ none none 0 0 0 0 [] [] _ rfl rfl (by omega) (by omega) ?nd1 ?nd2 (Box.new _ _ _)).mono ?_
    case nd1 => exact SlP.keep (SlP.nil) ((Below.refl _ _).alloc (Nat.le_refl _) _)
    case nd2 => exact SlP.keep (SlP.nil) ((Below.refl _ _).alloc (Nat.le_refl _) _)
    rintro e w2 ⟨v2, rfl, hp2, hb2⟩
    have HP2 := Lib.hid (hp2.base (show w.heap.size ≤ _ by rw [size_alloc]; have := Nat.le_refl w.heap.size; omega))
    have HB2 := Lib.hid ((Below.trans (Below.refl w.heap.size w) ((Below.refl _ _).alloc (Nat.le_refl w.heap.size) _)).trans (hb2.mono (by rw [size_alloc]; have := Nat.le_refl w.heap.size; omega)))
    clear hp2 hb2
    go_wp2
    go_ret
    exact ⟨_, rfl, by have h := HP2.out; simpa using h, HB2.out⟩
  · unfold maxLen at hm
    have HCELL := Lib.hid hcell
    have HGL := Lib.hid hgl
    have HTK := Lib.hid (show (l.take f).length = f by rw [List.length_take]; omega)
    have HTC : Hid (∀ j u, ((l.take f).flatMap PrV)[j]? = some u → w.cell? ((⟨g, 0, none⟩ : Addr).add j) = some u) := fun j u hj => by
      rw [add_plain, Nat.zero_add]
      refine hcell j u ?_
      conv => lhs; rw [← List.take_append_drop f l]
      rw [List.flatMap_append, List.getElem?_append_left (List.getElem?_eq_some_iff.1 hj).1]
      exact hj
    clear hl hcell hgl hg0
    rcases (show t < cap ∨ t = cap by omega) with htc | htc
    · have HDR := Lib.hid (show (l.drop t).length = l.length - t from List.length_drop ..)
      go_enter Try.func29, Try.ntmps29
      go_wp2_with (with_reducible refine wp_prs_same Try.underlying25 two_S _ rfl (.tmp 13) (.tmp 14) rfl _ f f rfl ?pc1 rfl ?pc2)
      case pc1 => exact Nat.le_refl _
      go_wp2_with fail
      refine (concat_len _ _ _ _ _ f _ (l.take f) (l.drop t) _ HTK.out HDR.out (by omega) (by omega) ?pd1 ?pd2 (Box.new _ _ _)).mono ?_
      case pd1 => exact SlP.keep (slP_take f HGL.out HCELL.out) ((Below.refl _ _).alloc (Nat.le_refl _) _)
      case pd2 => exact SlP.keep (slP_drop t HGL.out HCELL.out) ((Below.refl _ _).alloc (Nat.le_refl _) _)
      rintro e w2 ⟨v2, rfl, hp2, hb2⟩
      have HP2 := Lib.hid (hp2.base (show w.heap.size ≤ _ by rw [size_alloc]; have := Nat.le_refl w.heap.size; omega))
      have HB2 := Lib.hid ((Below.trans (Below.refl w.heap.size w) ((Below.refl _ _).alloc (Nat.le_refl w.heap.size) _)).trans (hb2.mono (by rw [size_alloc]; have := Nat.le_refl w.heap.size; omega)))
      clear hp2 hb2
      go_wp2
      go_ret
      exact ⟨_, rfl, by have h := HP2.out; exact h, HB2.out⟩
    · have hlt : l.length = cap := by omega
      have hcl : cap ≤ 1000 := by omega
      have hfc : f ≤ cap := by omega
      have HDE := Lib.hid (show l.drop t = [] by rw [List.drop_eq_nil_iff]; omega)
      have HDR := Lib.hid (show ([] : List (Int × Int)).length = 0 from rfl)
      rw [hlt] at ht ⊢
      subst htc
      clear hlt
      go_enter Try.func29, Try.ntmps29
      go_wp2_with (with_reducible refine wp_prs_same Try.underlying25 two_S _ rfl (.tmp 13) (.tmp 14) rfl _ f f rfl ?uc1 rfl ?uc2)
      case uc1 => exact Nat.le_refl _
      go_wp2_with fail
      refine (concat_len _ _ _ _ _ f _ (l.take f) [] _ HTK.out HDR.out (by omega) (by omega) ?ud1 ?ud2 (Box.new _ _ _)).mono ?_
      case ud1 => exact SlP.keep (slP_take f HGL.out HCELL.out) ((Below.refl _ _).alloc (Nat.le_refl _) _)
      case ud2 => exact SlP.keep (SlP.nil) ((Below.refl _ _).alloc (Nat.le_refl _) _)
      rintro e w2 ⟨v2, rfl, hp2, hb2⟩
      have HP2 := Lib.hid (hp2.base (show w.heap.size ≤ _ by rw [size_alloc]; have := Nat.le_refl w.heap.size; omega))
      have HB2 := Lib.hid ((Below.trans (Below.refl w.heap.size w) ((Below.refl _ _).alloc (Nat.le_refl w.heap.size) _)).trans (hb2.mono (by rw [size_alloc]; have := Nat.le_refl w.heap.size; omega)))
      clear hp2 hb2
      go_wp2
      go_ret
      exact ⟨_, rfl, by have h := HP2.out; rw [HDE.out]; exact h, HB2.out⟩

set_option maxRecDepth 100000 in
set_option maxHeartbeats 2000000 in
theorem swapped_one (lv : Value) (l : List (Int × Int)) (f t : Nat) (ob : Nat) (z : Int × Int) (w : World) (b0 : Nat) (hl : Prs 46 w b0 lv l) (hlen : l.length ≤ 1000) (hft : f ≤ t) (ht : t ≤ l.length) (hz : Box w ob 46 #[.int .i64 z.1, .int .i64 z.2]) :
    Calls Try.prog 29 #[lv, .int .i64 f, .int .i64 t, .slice (some ⟨ob, 0, none⟩) 1 1] w fun e w' => ∃ v, e = .returned v ∧ Prs 46 w' w.heap.size v (l.take f ++ [z] ++ l.drop t) ∧ Below w.heap.size w w' := by
  have HZ : Hid (∀ j u, ([z].flatMap PrV)[j]? = some u → w.cell? ((⟨ob, 0, none⟩ : Addr).add j) = some u) := fun j u hj => by rw [add_plain, Nat.zero_add]; exact hz.cell j u (by simpa [PrV] using hj)
  clear hz
  rcases hl.view with ⟨rfl, rfl⟩ | ⟨g, cap, rfl, hc, hm, hg0, hgl, hcell⟩
  · obtain rfl : t = 0 := by simpa using ht
    obtain rfl : f = 0 := by omega
    clear hl
    go_enter Try.func29, Try.ntmps29
    go_wp2_with (with_reducible refine wp_prs_app Try.underlying25 two_S _ rfl (.tmp 13) (.tmp 14) rfl w.heap.size _ [] rfl ?nc1 ⟨ob, 0, none⟩ 1 [z] ?nc2 ?nc3 ?nc4 ?nc5 ?nc6)
    case nc1 => exact Prs.nil _ _ _
    case nc2 => rfl
    case nc3 => exact HZ.out
    case nc4 => simp
    case nc5 => exact Nat.le_refl _
    intro v' w1 hp hg
    have HB1 := Lib.hid ((Below.refl w.heap.size w).grown hg (Nat.le_refl _) (fun k hk => by cases hk))
    obtain ⟨a1, c1, rfl, _, _, hs1⟩ := hp.slP
    have HS1 := Lib.hid hs1
    clear hp hg hs1
    go_wp2_with fail
    refine (concat_len _ a1 none c1 0 1 0 ([] ++ [z]) [] _ rfl rfl (by omega) (by omega) ?nd1 ?nd2 (Box.new _ _ _)).mono ?_
    case nd1 => exact SlP.keep (HS1.out) ((Below.refl _ _).alloc (Nat.le_refl _) _)
    case nd2 => exact SlP.keep (SlP.nil) ((Below.refl _ _).alloc (Nat.le_refl _) _)
    rintro e w2 ⟨v2, rfl, hp2, hb2⟩
    have HP2 := Lib.hid (hp2.base (show w.heap.size ≤ _ by rw [size_alloc]; have := HB1.out.size; omega))
    have HB2 := Lib.hid ((Below.trans (HB1.out) ((Below.refl _ _).alloc (HB1.out.size) _)).trans (hb2.mono (by rw [size_alloc]; have := HB1.out.size; omega)))
    clear hp2 hb2
    go_wp2
    go_ret
    exact ⟨_, rfl, by have h := HP2.out; simpa using h, HB2.out⟩
  · unfold maxLen at hm
    have HCELL := Lib.hid hcell
    have HGL := Lib.hid hgl
    have HTK := Lib.hid (show (l.take f).length = f by rw [List.length_take]; omega)
    have HTC : Hid (∀ j u, ((l.take f).flatMap PrV)[j]? = some u → w.cell? ((⟨g, 0, none⟩ : Addr).add j) = some u) := fun j u hj => by
      rw [add_plain, Nat.zero_add]
      refine hcell j u ?_
      conv => lhs; rw [← List.take_append_drop f l]
      rw [List.flatMap_append, List.getElem?_append_left (List.getElem?_eq_some_iff.1 hj).1]
      exact hj
    clear hl hcell hgl hg0
    rcases (show t < cap ∨ t = cap by omega) with htc | htc
    · have HDR := Lib.hid (show (l.drop t).length = l.length - t from List.length_drop ..)
      go_enter Try.func29, Try.ntmps29
      go_wp2_with (with_reducible refine wp_prs_grow Try.underlying25 two_S _ rfl (.tmp 13) (.tmp 14) rfl ⟨g, 0, none⟩ (l.take f) ?pc1 ?pc2 ⟨ob, 0, none⟩ 1 [z] ?pc3 ?pc4 ?pc5 ?pc6 ?pc7)
      case pc1 => rw [HTK.out]; rfl
      case pc2 => exact HTC.out
      case pc3 => rfl
      case pc4 => exact HZ.out
      case pc5 => simp
      case pc6 => rw [HTK.out]; simp; omega
      intro v' w1 hp hb1
      have HB1 := Lib.hid hb1
      have HC1 := Lib.hid (fun j u hj => (hb1.cell (p := ⟨g, j, none⟩) HGL.out).trans (HCELL.out j u hj))
      have HG1 := Lib.hid (Nat.lt_of_lt_of_le HGL.out hb1.size)
      obtain ⟨a1, c1, rfl, _, _, hs1⟩ := hp.slP
      have HS1 := Lib.hid hs1
      clear hp hb1 hs1
      generalize hq : (l.take f ++ [z]).length = q
      have HQ := Lib.hid hq
      have hq2 : q ≤ 2000 := by rw [← hq, List.length_append, HTK.out]; simp; omega
      clear hq
      go_wp2_with fail
      refine (concat_len _ a1 _ c1 _ q _ (l.take f ++ [z]) (l.drop t) _ HQ.out HDR.out hq2 (by omega) ?pd1 ?pd2 (Box.new _ _ _)).mono ?_
      case pd1 => exact SlP.keep (HS1.out) ((Below.refl _ _).alloc (Nat.le_refl _) _)
      case pd2 => exact SlP.keep (slP_drop t HG1.out HC1.out) ((Below.refl _ _).alloc (Nat.le_refl _) _)
      rintro e w2 ⟨v2, rfl, hp2, hb2⟩
      have HP2 := Lib.hid (hp2.base (show w.heap.size ≤ _ by rw [size_alloc]; have := HB1.out.size; omega))
      have HB2 := Lib.hid ((Below.trans (HB1.out) ((Below.refl _ _).alloc (HB1.out.size) _)).trans (hb2.mono (by rw [size_alloc]; have := HB1.out.size; omega)))
      clear hp2 hb2
      go_wp2
      go_ret
      exact ⟨_, rfl, by have h := HP2.out; exact h, HB2.out⟩
    · have hlt : l.length = cap := by omega
      have hcl : cap ≤ 1000 := by omega
      have hfc : f ≤ cap := by omega
      have HDE := Lib.hid (show l.drop t = [] by rw [List.drop_eq_nil_iff]; omega)
      have HDR := Lib.hid (show ([] : List (Int × Int)).length = 0 from rfl)
      rw [hlt] at ht ⊢
      subst htc
      clear hlt
      go_enter Try.func29, Try.ntmps29
      go_wp2_with (with_reducible refine wp_prs_grow Try.underlying25 two_S _ rfl (.tmp 13) (.tmp 14) rfl ⟨g, 0, none⟩ (l.take f) ?uc1 ?uc2 ⟨ob, 0, none⟩ 1 [z] ?uc3 ?uc4 ?uc5 ?uc6 ?uc7)
      case uc1 => rw [HTK.out]; rfl
      case uc2 => exact HTC.out
      case uc3 => rfl
      case uc4 => exact HZ.out
      case uc5 => simp
      case uc6 => rw [HTK.out]; simp; omega
      intro v' w1 hp hb1
      have HB1 := Lib.hid hb1
      have HC1 := Lib.hid (fun j u hj => (hb1.cell (p := ⟨g, j, none⟩) HGL.out).trans (HCELL.out j u hj))
      have HG1 := Lib.hid (Nat.lt_of_lt_of_le HGL.out hb1.size)
      obtain ⟨a1, c1, rfl, _, _, hs1⟩ := hp.slP
      have HS1 := Lib.hid hs1
      clear hp hb1 hs1
      generalize hq : (l.take f ++ [z]).length = q
      have HQ := Lib.hid hq
      have hq2 : q ≤ 2000 := by rw [← hq, List.length_append, HTK.out]; simp; omega
      clear hq
      go_wp2_with fail
      refine (concat_len _ a1 _ c1 _ q _ (l.take f ++ [z]) [] _ HQ.out HDR.out hq2 (by omega) ?ud1 ?ud2 (Box.new _ _ _)).mono ?_
      case ud1 => exact SlP.keep (HS1.out) ((Below.refl _ _).alloc (Nat.le_refl _) _)
      case ud2 => exact SlP.keep (SlP.nil) ((Below.refl _ _).alloc (Nat.le_refl _) _)
      rintro e w2 ⟨v2, rfl, hp2, hb2⟩
      have HP2 := Lib.hid (hp2.base (show w.heap.size ≤ _ by rw [size_alloc]; have := HB1.out.size; omega))
      have HB2 := Lib.hid ((Below.trans (HB1.out) ((Below.refl _ _).alloc (HB1.out.size) _)).trans (hb2.mono (by rw [size_alloc]; have := HB1.out.size; omega)))
      clear hp2 hb2
      go_wp2
      go_ret
      exact ⟨_, rfl, by have h := HP2.out; rw [HDE.out]; exact h, HB2.out⟩
end Go.Proofs.Ytmndeohhanbjkaa
