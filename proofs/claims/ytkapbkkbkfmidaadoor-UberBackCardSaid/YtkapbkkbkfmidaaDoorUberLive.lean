/-
  live, the closed part of each statement of package uber.
-/
import Derived.Test.YtkapbkkbkfmidaaDoorUberMath2
namespace Go.Proofs.YtkapbkkbkfmidaaDoor
open Go.RowKit Go.ChangeShapes Go.WideShapes Go.ChangeAt

def LU6 : UbD := ⟨6, ⟨#[115, 105, 120]⟩⟩
def LU7 : UbD := ⟨7, ⟨#[115, 101, 118, 101, 110]⟩⟩
def LU1 : UbD := ⟨1, ⟨#[]⟩⟩
theorem may6 : mayU LU6 := by decide
theorem may7 : mayU LU7 := by decide
theorem may1 : mayU LU1 := by decide
def UD0 : DevD := newD 5 5
def UD1 : DevD := wrU UD0 LU6
def UD2 : DevD := endD UD1 UD1.waits
def UD3 : DevD := wrU UD2 LU7
def UD4 : DevD := crashD UD3 []
theorem enc_small {u : UbD} (h : mayU u) : (encU u).1.size ≤ 2000 := by rw [encU_size h]; have := h.2.2; omega
theorem ul0 : bestU UD0 = (ub0, false) ∧ ∀ l, (tellD UD0 l).size ≤ 2000 := by
  have h := Rg.new 5
  refine ⟨best_none _ (fun k hk => ?_), h.small (fun _ _ _ _ _ => Nat.zero_le _)⟩
  show urootK (newD 5 5) k = _
  rw [h.root (by decide) k hk, if_neg (by simp)]
  exact rt_short ⟨#[]⟩ _ (by decide)
theorem ul2 : Rg 5 UD2 (fun _ j => if j = LU6.txg % 4 then (encU LU6).1 else ⟨#[]⟩) (fun _ j => if j = LU6.txg % 4 then (encU LU6).1 else ⟨#[]⟩) (fun _ => false) ∧ UD2.waits = [] ∧ uwR UD0 LU6 = 0 ∧ UD1.waits.length = 2 :=
  (Rg.new 5).round (by decide) LU6 may6 rfl
theorem ul3 : bestU UD3 = (LU7, true) ∧ (∀ l, (tellD UD3 l).size ≤ 2000) ∧ uwR UD2 LU7 = 0 ∧ UD3.waits.length = 2 := by
  obtain ⟨h2, hw, _⟩ := ul2
  obtain ⟨h3, h4, h5⟩ := h2.put (by decide) LU7 may7
  rw [hw, List.nil_append] at h4
  refine ⟨?_, h3.small (fun dev j _ _ _ => ?_), h5, by show (wrU UD2 LU7).waits.length = 2; rw [h4]; rfl⟩
  · exact ring_two h3 (by decide) LU6 LU7 may6 may7 (by decide) (by decide) (fun _ => true) (fun dev j hd _ _ => by simp [hd])
  · show ByteArray.size (if two dev ∧ j = LU7.txg % 4 then (encU LU7).1 else if j = LU6.txg % 4 then (encU LU6).1 else ⟨#[]⟩) ≤ 2000
    split
    · exact enc_small may7
    · split
      · exact enc_small may6
      · exact Nat.zero_le _
theorem ul4 : bestU UD4 = (LU6, true) ∧ (∀ l, (tellD UD4 l).size ≤ 2000) ∧ UD4.waits.length = 0 := by
  obtain ⟨h2, hw, _⟩ := ul2
  obtain ⟨h3, h4, h5⟩ := h2.put (by decide) LU7 may7
  have hk : keptL UD3.waits [] = [] := by unfold keptL; simp
  obtain ⟨h6, h7⟩ := h3.end' [] (fun x hx => by cases hx)
  have e : UD4 = endD UD3 [] := by show endD UD3 (keptL UD3.waits []) = _; rw [hk]
  rw [e]
  refine ⟨?_, h6.small (fun dev j _ _ _ => ?_), by show (endD (wrU UD2 LU7) []).waits.length = 0; rw [h7]; rfl⟩
  · exact ring_two h6 (by decide) LU6 LU7 may6 may7 (by decide) (by decide) (fun _ => false) (fun dev j hd _ _ => by simp)
  · show ByteArray.size (if j = LU6.txg % 4 then (encU LU6).1 else ⟨#[]⟩) ≤ 2000
    split
    · exact enc_small may6
    · exact Nat.zero_le _
theorem ul1 : (encU LU1).1.size = 42 ∧ (encU LU1).2 = 0 := ⟨encU_size may1, by rw [encU_ok may1]⟩

set_option maxRecDepth 100000 in
set_option maxHeartbeats 8000000 in
theorem live_any (w : World) (hK : Kt w) : Calls Tryd.prog 14 #[] w fun e w' => e = .returned (.bool true) ∧ Below w.heap.size w w' := by
  have HK := Lib.hid hK
  have HP := Lib.hid hK.pos
  have U0 := Lib.hid ul0
  have U2 := Lib.hid ul2
  have U3 := Lib.hid ul3
  have U4 := Lib.hid ul4
  have U1 := Lib.hid ul1
  clear hK
  go_enter Tryd.func14, Tryd.ntmps14
  go_wp2_with fail
  refine (one_new w.heap.size fixed_no 5 5 _ (Nat.le_refl _) ⟨[], rfl, fun _ h => by cases h⟩ (by omega) (by omega)).mono ?_
  rintro e v1 ⟨b, rfl, ho, hb⟩
  have H1 : Hid (One w.heap.size NoP b UD0 v1) := ho
  have L1 := Lib.hid hb
  clear ho hb
  go_wp2_with fail
  refine (best_any fixed_no H1.out HP.out (HK.out.below L1.out HP.out) U0.out.2).mono ?_
  rintro e v2 ⟨rfl, ho, hb⟩
  rw [U0.out.1, show ubV ub0 = .agg #[.int .i64 0, .string ⟨#[]⟩] from rfl]
  have ha := (Below.refl v2.heap.size v2).alloc (Nat.le_refl _) (.cells #[.int .i64 0, .string ⟨#[]⟩] 30 (0, 0))
  have H2 := Lib.hid (ho.keep fixed_no ha)
  have L2 := Lib.hid ((L1.out.trans (hb.mono H1.out.1)).trans (ha.mono ho.1))
  clear ho hb H1 L1 ha
  go_wp2_with fail
  refine (uwrite_ok fixed_no H2.out HP.out (HK.out.below L2.out HP.out) LU6 may6 (by decide)).mono ?_
  rintro e v3 ⟨rfl, ho, hb⟩
  rw [U2.out.2.2.1]
  have H3 : Hid (One w.heap.size NoP b UD1 v3) := ho
  have L3 := Lib.hid (L2.out.trans hb)
  clear ho hb H2 L2
  go_wp2_with fail
  refine (one_flush fixed_no H3.out (by rw [U2.out.2.2.2]; omega)).mono ?_
  rintro e v4 ⟨rfl, ho, hb⟩
  have H4 : Hid (One w.heap.size NoP b UD2 v4) := ho
  have L4 := Lib.hid (L3.out.trans hb)
  clear ho hb H3 L3
  go_wp2_with fail
  refine (uwrite_ok fixed_no H4.out HP.out (HK.out.below L4.out HP.out) LU7 may7 (by rw [U2.out.2.1]; simp)).mono ?_
  rintro e v5 ⟨rfl, ho, hb⟩
  rw [U3.out.2.2.1]
  have H5 : Hid (One w.heap.size NoP b UD3 v5) := ho
  have L5 := Lib.hid (L4.out.trans hb)
  clear ho hb H4 L4
  go_wp2_with fail
  refine (best_any fixed_no H5.out HP.out (HK.out.below L5.out HP.out) U3.out.2.1).mono ?_
  rintro e v6 ⟨rfl, ho, hb⟩
  rw [U3.out.1, show ubV (LU7, true).1 = .agg #[.int .i64 7, .string ⟨#[115, 101, 118, 101, 110]⟩] from rfl]
  have H6 := Lib.hid (ho.addBox fixed_no 30 #[.int .i64 7, .string ⟨#[115, 101, 118, 101, 110]⟩])
  have P6 := Lib.hid (fixed_both fixed_no (fixed_box v6.heap.size 30 #[.int .i64 7, .string ⟨#[115, 101, 118, 101, 110]⟩]))
  have L6 := Lib.hid ((L5.out.trans (hb.mono H5.out.1)).trans (((Below.refl v6.heap.size v6).alloc (Nat.le_refl _) (.cells #[.int .i64 7, .string ⟨#[115, 101, 118, 101, 110]⟩] 30 (0, 0))).mono ho.1))
  clear ho hb H5 L5
  go_wp2_with fail
  generalize v6.heap.size = g6 at *
  refine (one_crash P6.out H6.out none 0 [] Sl.nil (by rw [U3.out.2.2.2]; omega) (by simp)).mono ?_
  rintro e v7 ⟨rfl, ho, hb⟩
  have H7 : Hid (One w.heap.size (Both NoP (BoxP g6 30 #[.int .i64 7, .string ⟨#[115, 101, 118, 101, 110]⟩])) b UD4 v7) := ho
  have L7 := Lib.hid (L6.out.trans hb)
  clear ho hb H6 L6
  go_wp2_with fail
  refine (best_any P6.out H7.out HP.out (HK.out.below L7.out HP.out) U4.out.2.1).mono ?_
  rintro e v8 ⟨rfl, ho, hb⟩
  rw [U4.out.1, show ubV (LU6, true).1 = .agg #[.int .i64 6, .string ⟨#[115, 105, 120]⟩] from rfl]
  have H8 := Lib.hid (ho.addBox P6.out 30 #[.int .i64 6, .string ⟨#[115, 105, 120]⟩])
  have P8 := Lib.hid (fixed_both P6.out (fixed_box v8.heap.size 30 #[.int .i64 6, .string ⟨#[115, 105, 120]⟩]))
  have L8 := Lib.hid ((L7.out.trans (hb.mono H7.out.1)).trans (((Below.refl v8.heap.size v8).alloc (Nat.le_refl _) (.cells #[.int .i64 6, .string ⟨#[115, 105, 120]⟩] 30 (0, 0))).mono ho.1))
  clear ho hb H7 L7
  go_wp2_with fail
  generalize v8.heap.size = g8 at *
  refine (encode_any LU1 _ (by decide) (HK.out.below L8.out HP.out)).mono ?_
  rintro e v9 ⟨rfl, hb⟩
  rw [U1.out.2]
  have H9 := Lib.hid (H8.out.keep P8.out hb)
  have L9 := Lib.hid (L8.out.trans (hb.mono H8.out.1))
  have S1 := Lib.hid U1.out.1
  clear hb H8 L8
  generalize (encU LU1).1 = s1 at *
  have hs1 : s1.size = 42 := S1.out
  go_wp2_with fail
  have hs2 : Hid ((s1.extract 0 41).size < 42) := by show _ < _; rw [ByteArray.size_extract]; omega
  refine (decode_cut (s1.extract 0 41) _ hs2.out).mono ?_
  rintro e v10 ⟨rfl, hb⟩
  rw [show ubV ub0 = .agg #[.int .i64 0, .string ⟨#[]⟩] from rfl]
  have ha := (Below.refl v10.heap.size v10).alloc (Nat.le_refl _) (.cells #[.int .i64 0, .string ⟨#[]⟩] 30 (0, 0))
  have H10 := Lib.hid ((H9.out.keep P8.out hb).keep P8.out ha)
  have L10 := Lib.hid ((L9.out.trans (hb.mono H9.out.1)).trans (ha.mono (Nat.le_trans H9.out.1 hb.size)))
  clear hb ha H9 L9
  go_wp2_with fail
  refine (decode_cut ⟨#[115, 104, 111, 114, 116]⟩ _ (by decide)).mono ?_
  rintro e v11 ⟨rfl, hb⟩
  rw [show ubV ub0 = .agg #[.int .i64 0, .string ⟨#[]⟩] from rfl]
  have hk11 := H10.out.keep P8.out hb
  have L11 := Lib.hid (L10.out.trans (hb.mono H10.out.1))
  have ha := fun o : Obj => (Below.refl v11.heap.size v11).alloc (Nat.le_refl _) o
  have HA : Hid (∀ o : Obj, One w.heap.size (Both (Both NoP (BoxP g6 30 #[.int .i64 7, .string ⟨#[115, 101, 118, 101, 110]⟩])) (BoxP g8 30 #[.int .i64 6, .string ⟨#[115, 105, 120]⟩])) b UD4 (v11.alloc o)) := fun o => hk11.keep P8.out (ha o)
  have LA : Hid (∀ o : Obj, Below w.heap.size w (v11.alloc o)) := fun o => L11.out.trans ((ha o).mono hk11.1)
  have c60 : ∀ o : Obj, (v11.alloc o).cell? ⟨g6, 0, none⟩ = some (.int .i64 7) := fun o => (HA.out o).drop.box.cell 0 _ rfl
  have c61 : ∀ o : Obj, (v11.alloc o).cell? ⟨g6, 1, none⟩ = some (.string ⟨#[115, 101, 118, 101, 110]⟩) := fun o => (HA.out o).drop.box.cell 1 _ rfl
  have c80 : ∀ o : Obj, (v11.alloc o).cell? ⟨g8, 0, none⟩ = some (.int .i64 6) := fun o => (HA.out o).box.cell 0 _ rfl
  have c81 : ∀ o : Obj, (v11.alloc o).cell? ⟨g8, 1, none⟩ = some (.string ⟨#[115, 105, 120]⟩) := fun o => (HA.out o).box.cell 1 _ rfl
  have q7 : ∀ w, (Op.equalIn 10000 30 (.agg #[.int .i64 7, .string ⟨#[115, 101, 118, 101, 110]⟩]) (.agg #[.int .i64 7, .string ⟨#[115, 101, 118, 101, 110]⟩])).run Tryd.prog w = .ok true w := fun w => by rw [eqUb]; simp
  have q6 : ∀ w, (Op.equalIn 10000 30 (.agg #[.int .i64 6, .string ⟨#[115, 105, 120]⟩]) (.agg #[.int .i64 6, .string ⟨#[115, 105, 120]⟩])).run Tryd.prog w = .ok true w := fun w => by rw [eqUb]; simp
  clear hb ha hk11 H10 L10
  go_wp2_with fail
  clear q7 q6 c60 c61 c80 c81
  generalize hv12 : World.alloc _ _ = v12
  have H12 : Hid (One w.heap.size (Both (Both NoP (BoxP g6 30 #[.int .i64 7, .string ⟨#[115, 101, 118, 101, 110]⟩])) (BoxP g8 30 #[.int .i64 6, .string ⟨#[115, 105, 120]⟩])) b UD4 v12) := by show One _ _ _ _ _; rw [← hv12]; exact HA.out _
  have L12 : Hid (Below w.heap.size w v12) := by show Below _ _ _; rw [← hv12]; exact LA.out _
  clear hv12 HA LA L11
  refine (uwrite_bad (some ⟨b, 0, none⟩) ubN _ (by decide) (HK.out.below L12.out HP.out) (by decide)).mono ?_
  rintro e v13 ⟨rfl, hb⟩
  have H13 := Lib.hid (H12.out.keep P8.out hb)
  have L13 := Lib.hid (L12.out.trans (hb.mono H12.out.1))
  have c60 : v13.cell? ⟨g6, 0, none⟩ = some (.int .i64 7) := H13.out.drop.box.cell 0 _ rfl
  have c61 : v13.cell? ⟨g6, 1, none⟩ = some (.string ⟨#[115, 101, 118, 101, 110]⟩) := H13.out.drop.box.cell 1 _ rfl
  clear hb H12 L12
  go_wp2_with fail
  refine (uwrite_nil LU7 _ (by decide) (HK.out.below L13.out HP.out)).mono ?_
  rintro e v14 ⟨rfl, hb⟩
  have L14 := Lib.hid (L13.out.trans (hb.mono H13.out.1))
  clear hb c60 c61 H13 L13
  go_wp2
  go_ret
  exact ⟨rfl, L14.out⟩
end Go.Proofs.YtkapbkkbkfmidaaDoor
