/-
  Texts put together: StJ, StK, All, ClogC.
-/
import Derived.Test.YtphhnhldbajaoaaGreatDoorMg19
import Derived.Test.YtphhnhldbajaoaaGreatDoorMg23
import Derived.Test.YtphhnhldbajaoaaGreatDoorMg0
import Derived.Laws.Rows
import Derived.Test.YtphhnhldbajaoaaGreatDoorMg10
import Derived.Test.YtphhnhldbajaoaaGreatDoorMg20
namespace Go.Proofs.YtphhnhldbajaoaaGreatDoor
open Go Go.RowKit Go.ChangeShapes Go.WideShapes Go.ChangeAt

/-- What the second cache has, held against the pointer. -/
def heldT (f : ByteArray × Bool) (p : PtrD) : ByteArray × Bool := if f.2 = true ∧ (f.1.size : Int) = p.len ∧ sha f.1 = p.sum then (f.1, true) else (⟨#[]⟩, false)
section
variable {s : Nat} {x : StoV} {w : World}
set_option maxRecDepth 100000 in
set_option maxHeartbeats 8000000 in
theorem sfind_any (h : StoB w s x) (ref : ByteArray) (pa : Option Addr) (pc : Nat) (p : PtrD) (f : ByteArray × Bool) (hz : f.1.size ≤ 140737488355328) (Q : World → Prop)
    (hF : Calls Tryz.prog 114 #[x.cv, .string ref] (w.alloc (.cells #[.slice pa p.locs.length pc, .int .i64 p.len, .int .i64 p.birth, .string p.sum] 37 (0, 0))) fun e w' => e = .returned (.tuple #[.string f.1, .bool f.2]) ∧ Q w')
    (hC : ∀ W, Q W → W.cell? ⟨w.heap.size, 1, none⟩ = some (.int .i64 p.len) ∧ W.cell? ⟨w.heap.size, 3, none⟩ = some (.string p.sum) ∧ Kt W) (hK : ∀ W W', Q W → Below W.heap.size W W' → Q W') :
    Calls Tryz.prog 85 #[.pointer (some ⟨s, 0, none⟩), .string ref, ptrV pa pc p] w fun e w' => e = .returned (.tuple #[.string (heldT f p).1, .bool (heldT f p).2]) ∧ Q w' := by
  obtain ⟨f1, f2⟩ := f
  obtain ⟨gb, hgb⟩ : ∃ gb, gb = w.heap.size := ⟨_, rfl⟩
  obtain ⟨wa, hwa⟩ : ∃ wa, wa = w.alloc (.cells #[.slice pa p.locs.length pc, .int .i64 p.len, .int .i64 p.birth, .string p.sum] 37 (0, 0)) := ⟨_, rfl⟩
  have hba : Below w.heap.size w wa := by rw [hwa]; exact (Below.refl _ _).alloc (Nat.le_refl _) _
  have c11 : wa.cell? ⟨s, 11, none⟩ = some x.cv := (h.keep hba h.lt).cell 11 _ rfl
  rw [← hwa] at hF
  rw [← hgb] at hC
  have HF := Lib.hid hF
  have HC := Lib.hid hC
  have HK := Lib.hid hK
  have HZ : Hid (f1.size ≤ 140737488355328) := hz
  obtain ⟨R, hR⟩ : ∃ R, R = heldT (f1, f2) p := ⟨_, rfl⟩
  rw [← hR]
  have HR := Lib.hid hR
  have hwa2 := hwa.symm
  have hgb2 := hgb.symm
  unfold ptrV
  clear h hwa hgb hF hC hK hba hR hz
  cases f2
  · have HE : Hid (R = (⟨#[]⟩, false)) := by show _ = _; rw [HR.out]; unfold heldT; rw [if_neg (fun h => by cases h.1)]
    clear HR
    go_enter Tryz.func85, Tryz.ntmps85
    go_wp2_with fail
    refine HF.out.mono ?_
    rintro e w2 ⟨rfl, hq2⟩
    have HQ2 : Hid (Q w2.drew) := HK.out _ _ hq2 (Below.refl _ _).drew
    obtain ⟨e1, e3, hkt⟩ := HC.out _ HQ2.out
    have HKT := Lib.hid hkt
    clear hq2 hkt
    go_wp2_with fail
    refine wp_region_tree (fun W => W.cell? ⟨gb, 1, none⟩ = some (.int .i64 p.len) ∧ W.cell? ⟨gb, 3, none⟩ = some (.string p.sum)) 14 (.quiet 0 (.quiet 1 (.quiet 2 (.quiet 3 (.quiet 4 (.quiet 5 (.quiet 6 (.quiet 7 (.quiet 8 (.quiet 9 (.quiet 10 (.quiet 12 (.quiet 13 (.make 11 .nil)))))))))))))) (by kernel_rfl) (by kernel_rfl) ⟨e1, e3⟩ ?_
    simp only [List.drop_succ_cons, List.drop_zero]
    iterate 13 (apply wpTr_step rfl; (intro W hS K hK; obtain ⟨y0, y1⟩ := hS; go_simp; exact hK _ rfl))
    refine wpTr_make rfl (fun K' hK => ?_)
    go_simp
    refine hK _ _ _ (fun _ h => h) ⟨e1, e3⟩ ?_
    clear hK K' e1 e3
    refine wpTr_nil ?_
    go_wp2
    go_ret2
    rw [HE.out]
    exact ⟨rfl, HQ2.out⟩
  · by_cases hl : (f1.size : Int) = p.len
    · have d1 : ((f1.size : Int) != p.len) = false := by simp [hl]
      by_cases hsum : sha f1 = p.sum
      · have HE : Hid (R = (f1, true)) := by show _ = _; rw [HR.out]; unfold heldT; rw [if_pos ⟨rfl, hl, hsum⟩]
        have HSM := Lib.hid hsum
        clear HR hl hsum
        go_enter Tryz.func85, Tryz.ntmps85
        go_wp2_with fail
        refine HF.out.mono ?_
        rintro e w2 ⟨rfl, hq2⟩
        have HQ2 : Hid (Q w2.drew) := HK.out _ _ hq2 (Below.refl _ _).drew
        obtain ⟨e1, e3, hkt⟩ := HC.out _ HQ2.out
        have HKT := Lib.hid hkt
        clear hq2 hkt
        go_wp2_with fail
        refine wp_region_tree (fun W => W.cell? ⟨gb, 1, none⟩ = some (.int .i64 p.len) ∧ W.cell? ⟨gb, 3, none⟩ = some (.string p.sum)) 14 (.quiet 0 (.quiet 1 (.quiet 2 (.quiet 3 (.quiet 4 (.quiet 5 (.quiet 6 (.quiet 7 (.quiet 8 (.quiet 9 (.quiet 10 (.quiet 12 (.quiet 13 (.make 11 .nil)))))))))))))) (by kernel_rfl) (by kernel_rfl) ⟨e1, e3⟩ ?_
        simp only [List.drop_succ_cons, List.drop_zero]
        iterate 13 (apply wpTr_step rfl; (intro W hS K hK; obtain ⟨y0, y1⟩ := hS; go_simp; exact hK _ rfl))
        refine wpTr_make rfl (fun K' hK => ?_)
        go_simp
        refine (of_any f1 _ HZ.out HKT.out).mono ?_
        rintro e w3 ⟨rfl, hb3⟩
        have HQ3 := Lib.hid (HK.out _ _ HQ2.out hb3)
        obtain ⟨y1, y3, _⟩ := HC.out _ HQ3.out
        refine hK _ _ _ (fun _ h => h) ⟨y1, y3⟩ ?_
        clear hK K' e1 e3 y1 y3 hb3
        refine wpTr_nil ?_
        have d2 : ((sha f1).toList == p.sum.toList) = true := by rw [beq_key]; simpa using HSM.out
        generalize sha f1 = sm at *
        go_wp2
        go_ret2
        rw [HE.out]
        exact ⟨rfl, HQ3.out⟩
      · have HE : Hid (R = (⟨#[]⟩, false)) := by show _ = _; rw [HR.out]; unfold heldT; rw [if_neg (fun h => hsum h.2.2)]
        have HSM := Lib.hid hsum
        clear HR hl hsum
        go_enter Tryz.func85, Tryz.ntmps85
        go_wp2_with fail
        refine HF.out.mono ?_
        rintro e w2 ⟨rfl, hq2⟩
        have HQ2 : Hid (Q w2.drew) := HK.out _ _ hq2 (Below.refl _ _).drew
        obtain ⟨e1, e3, hkt⟩ := HC.out _ HQ2.out
        have HKT := Lib.hid hkt
        clear hq2 hkt
        go_wp2_with fail
        refine wp_region_tree (fun W => W.cell? ⟨gb, 1, none⟩ = some (.int .i64 p.len) ∧ W.cell? ⟨gb, 3, none⟩ = some (.string p.sum)) 14 (.quiet 0 (.quiet 1 (.quiet 2 (.quiet 3 (.quiet 4 (.quiet 5 (.quiet 6 (.quiet 7 (.quiet 8 (.quiet 9 (.quiet 10 (.quiet 12 (.quiet 13 (.make 11 .nil)))))))))))))) (by kernel_rfl) (by kernel_rfl) ⟨e1, e3⟩ ?_
        simp only [List.drop_succ_cons, List.drop_zero]
        iterate 13 (apply wpTr_step rfl; (intro W hS K hK; obtain ⟨y0, y1⟩ := hS; go_simp; exact hK _ rfl))
        refine wpTr_make rfl (fun K' hK => ?_)
        go_simp
        refine (of_any f1 _ HZ.out HKT.out).mono ?_
        rintro e w3 ⟨rfl, hb3⟩
        have HQ3 := Lib.hid (HK.out _ _ HQ2.out hb3)
        obtain ⟨y1, y3, _⟩ := HC.out _ HQ3.out
        refine hK _ _ _ (fun _ h => h) ⟨y1, y3⟩ ?_
        clear hK K' e1 e3 y1 y3 hb3
        refine wpTr_nil ?_
        have d2 : ((sha f1).toList == p.sum.toList) = false := by rw [beq_key]; simpa using HSM.out
        generalize sha f1 = sm at *
        go_wp2
        go_ret2
        rw [HE.out]
        exact ⟨rfl, HQ3.out⟩
    · have d1 : ((f1.size : Int) != p.len) = true := by simp [hl]
      have HE : Hid (R = (⟨#[]⟩, false)) := by show _ = _; rw [HR.out]; unfold heldT; rw [if_neg (fun h => hl h.2.1)]
      clear HR hl
      go_enter Tryz.func85, Tryz.ntmps85
      go_wp2_with fail
      refine HF.out.mono ?_
      rintro e w2 ⟨rfl, hq2⟩
      have HQ2 : Hid (Q w2.drew) := HK.out _ _ hq2 (Below.refl _ _).drew
      obtain ⟨e1, e3, hkt⟩ := HC.out _ HQ2.out
      have HKT := Lib.hid hkt
      clear hq2 hkt
      go_wp2_with fail
      refine wp_region_tree (fun W => W.cell? ⟨gb, 1, none⟩ = some (.int .i64 p.len) ∧ W.cell? ⟨gb, 3, none⟩ = some (.string p.sum)) 14 (.quiet 0 (.quiet 1 (.quiet 2 (.quiet 3 (.quiet 4 (.quiet 5 (.quiet 6 (.quiet 7 (.quiet 8 (.quiet 9 (.quiet 10 (.quiet 12 (.quiet 13 (.make 11 .nil)))))))))))))) (by kernel_rfl) (by kernel_rfl) ⟨e1, e3⟩ ?_
      simp only [List.drop_succ_cons, List.drop_zero]
      iterate 13 (apply wpTr_step rfl; (intro W hS K hK; obtain ⟨y0, y1⟩ := hS; go_simp; exact hK _ rfl))
      refine wpTr_make rfl (fun K' hK => ?_)
      go_simp
      refine hK _ _ _ (fun _ h => h) ⟨e1, e3⟩ ?_
      clear hK K' e1 e3
      refine wpTr_nil ?_
      go_wp2
      go_ret2
      rw [HE.out]
      exact ⟨rfl, HQ2.out⟩
end
end Go.Proofs.YtphhnhldbajaoaaGreatDoor

namespace Go.Proofs.YtphhnhldbajaoaaGreatDoor
open Go Go.RowKit Go.ChangeShapes Go.WideShapes Go.ChangeAt

def tryV (f : FuncId) (s : Nat) : Value := .func (.func f) #[.pointer (some ⟨s, 0, none⟩)] #[]
set_option maxRecDepth 100000 in
set_option maxHeartbeats 2000000 in
theorem stries_any (s : Nat) (w : World) : Calls Tryz.prog 43 #[.pointer (some ⟨s, 0, none⟩)] w fun e w' => e = .returned (.agg #[tryV 84 s, tryV 85 s, tryV 86 s]) ∧ Below w.heap.size w w' := by
  unfold tryV
  obtain ⟨wa, hwa⟩ : ∃ wa, wa = w.alloc (.cells #[Value.nilFunc, Value.nilFunc, Value.nilFunc] 83 (0, 0)) := ⟨_, rfl⟩
  have hb : Below w.heap.size w wa := by rw [hwa]; exact (Below.refl _ _).alloc (Nat.le_refl _) _
  have BX : Box wa w.heap.size 83 #[Value.nilFunc, Value.nilFunc, Value.nilFunc] := by rw [hwa]; exact Box.new _ _ _
  have BX1 := BX.set 0 (.func (.func 84) #[.pointer (some ⟨s, 0, none⟩)] #[])
  have BX2 := BX1.set 1 (.func (.func 85) #[.pointer (some ⟨s, 0, none⟩)] #[])
  have BX3 := BX2.set 2 (.func (.func 86) #[.pointer (some ⟨s, 0, none⟩)] #[])
  have c0 : wa.cell? ⟨w.heap.size, 0, none⟩ = some Value.nilFunc := BX.cell 0 _ rfl
  have f0 := BX.free 0
  have c1 : (wa.setCell ⟨w.heap.size, 0, none⟩ (.func (.func 84) #[.pointer (some ⟨s, 0, none⟩)] #[])).cell? ⟨w.heap.size, 1, none⟩ = some Value.nilFunc := BX1.cell 1 _ rfl
  have f1 := BX1.free 1
  have c2 : ((wa.setCell ⟨w.heap.size, 0, none⟩ (.func (.func 84) #[.pointer (some ⟨s, 0, none⟩)] #[])).setCell ⟨w.heap.size, 1, none⟩ (.func (.func 85) #[.pointer (some ⟨s, 0, none⟩)] #[])).cell? ⟨w.heap.size, 2, none⟩ = some Value.nilFunc := BX2.cell 2 _ rfl
  have f2 := BX2.free 2
  have HB3 := Lib.hid BX3
  have HBF : Hid (Below w.heap.size w (((wa.setCell ⟨w.heap.size, 0, none⟩ (.func (.func 84) #[.pointer (some ⟨s, 0, none⟩)] #[])).setCell ⟨w.heap.size, 1, none⟩ (.func (.func 85) #[.pointer (some ⟨s, 0, none⟩)] #[])).setCell ⟨w.heap.size, 2, none⟩ (.func (.func 86) #[.pointer (some ⟨s, 0, none⟩)] #[]))) := ((((Chg.of hb (Nat.le_refl _) (S := [])).set w.heap.size 0 _ (.inr (Nat.le_refl _))).set w.heap.size 1 _ (.inr (Nat.le_refl _))).set w.heap.size 2 _ (.inr (Nat.le_refl _))).below (Nat.le_refl _) (fun _ h => by cases h)
  have hw2 := hwa.symm
  clear BX BX1 BX2 BX3 hwa
  have hst : ∀ (g : Addr) (W : World) (f : FuncId), (store g (.func (.func f) #[.pointer (some ⟨s, 0, none⟩)] #[])).run Tryz.prog W = stored Tryz.prog W g (.func (.func f) #[.pointer (some ⟨s, 0, none⟩)] #[]) .plain := fun g W f => run_store _ W g _ _ rfl
  go_enter Tryz.func43, Tryz.ntmps43
  go_wp2_with fail
  refine bodyPost_ret (results_cell_row rfl _ _ w.heap.size 83 _ (0, 0) _ rfl HB3.out Tryz.underlying83 rfl (by kernel_rfl)) rfl ⟨rfl, HBF.out⟩
end Go.Proofs.YtphhnhldbajaoaaGreatDoor

namespace Go.Proofs.YtphhnhldbajaoaaGreatDoor
open Go.RowKit Go.ChangeShapes Go.WideShapes Go.ChangeAt

/-- Things beside one another. -/
def Alls : List (List Nat → World → Prop) → List Nat → World → Prop
  | [] => NoP
  | P :: l => Both P (Alls l)
def AllF (l : List (List Nat → World → Prop)) : Prop := ∀ P ∈ l, Fixed P
theorem AllF.tail {P : List Nat → World → Prop} {l : List (List Nat → World → Prop)} (h : AllF (P :: l)) : AllF l := fun Q hQ => h Q (List.mem_cons_of_mem _ hQ)
theorem AllF.head {P : List Nat → World → Prop} {l : List (List Nat → World → Prop)} (h : AllF (P :: l)) : Fixed P := h P (by simp)
theorem AllF.nil : AllF [] := fun _ h => by cases h
theorem AllF.cons {P : List Nat → World → Prop} {l : List (List Nat → World → Prop)} (h : Fixed P) (k : AllF l) : AllF (P :: l) := fun Q hQ => by
  rcases List.mem_cons.1 hQ with h1 | h1
  · rw [h1]; exact h
  · exact k Q h1
theorem AllF.append {l m : List (List Nat → World → Prop)} (h : AllF l) (k : AllF m) : AllF (l ++ m) := fun Q hQ => (List.mem_append.1 hQ).elim (h Q) (k Q)
theorem fixed_alls : ∀ {l : List (List Nat → World → Prop)}, AllF l → Fixed (Alls l)
  | [], _ => fixed_no
  | _ :: _, h => fixed_both h.head (fixed_alls h.tail)
/-- The same blocks, in another order. -/
def SubA (P Q : List Nat → World → Prop) : Prop := ∀ G w, P G w → ∃ G', Q G' w ∧ ∀ k, k ∈ G' ↔ k ∈ G
theorem SubA.refl (P : List Nat → World → Prop) : SubA P P := fun G _ h => ⟨G, h, fun _ => Iff.rfl⟩
theorem SubA.trans {P Q R : List Nat → World → Prop} (h : SubA P Q) (k : SubA Q R) : SubA P R := fun G w hp => by
  obtain ⟨G1, h1, h2⟩ := h G w hp
  obtain ⟨G2, k1, k2⟩ := k G1 w h1
  exact ⟨G2, k1, fun i => (k2 i).trans (h2 i)⟩
theorem SubA.both {P P' Q Q' : List Nat → World → Prop} (h : SubA P P') (k : SubA Q Q') : SubA (Both P Q) (Both P' Q') := by
  rintro G w ⟨G1, G2, rfl, h1, h2, h3⟩
  obtain ⟨F1, f1, e1⟩ := h G1 w h1
  obtain ⟨F2, f2, e2⟩ := k G2 w h2
  refine ⟨F1 ++ F2, ⟨F1, F2, rfl, f1, f2, fun i hi hj => h3 i ((e1 i).1 hi) ((e2 i).1 hj)⟩, fun i => ?_⟩
  simp only [List.mem_append, e1, e2]
theorem SubA.comm (P Q : List Nat → World → Prop) : SubA (Both P Q) (Both Q P) := by
  rintro G w ⟨G1, G2, rfl, h1, h2, h3⟩
  refine ⟨G2 ++ G1, ⟨G2, G1, rfl, h2, h1, fun i hi hj => h3 i hj hi⟩, fun i => ?_⟩
  simp only [List.mem_append]
  exact Or.comm
theorem SubA.left (P Q R : List Nat → World → Prop) : SubA (Both P (Both Q R)) (Both (Both P Q) R) := by
  rintro G w ⟨G1, G2, rfl, h1, ⟨G3, G4, rfl, h3, h4, h5⟩, h2⟩
  refine ⟨(G1 ++ G3) ++ G4, ⟨G1 ++ G3, G4, rfl, ⟨G1, G3, rfl, h1, h3, fun i hi hj => h2 i hi (List.mem_append_left _ hj)⟩, h4, fun i hi hj => ?_⟩, fun i => by rw [List.append_assoc]⟩
  rcases List.mem_append.1 hi with h | h
  · exact h2 i h (List.mem_append_right _ hj)
  · exact h5 i h hj
theorem SubA.right (P Q R : List Nat → World → Prop) : SubA (Both (Both P Q) R) (Both P (Both Q R)) := by
  rintro G w ⟨G1, G2, rfl, ⟨G3, G4, rfl, h3, h4, h5⟩, h1, h2⟩
  refine ⟨G3 ++ (G4 ++ G2), ⟨G3, G4 ++ G2, rfl, h3, ⟨G4, G2, rfl, h4, h1, fun i hi hj => h2 i (List.mem_append_right _ hi) hj⟩, fun i hi hj => ?_⟩, fun i => by rw [List.append_assoc]⟩
  rcases List.mem_append.1 hj with h | h
  · exact h5 i hi h
  · exact h2 i (List.mem_append_left _ hi) h
theorem SubA.exch (P Q R : List Nat → World → Prop) : SubA (Both P (Both Q R)) (Both Q (Both P R)) := (SubA.left P Q R).trans (((SubA.comm P Q).both (SubA.refl R)).trans (SubA.right Q P R))
theorem alls_perm {l m : List (List Nat → World → Prop)} (h : l.Perm m) : SubA (Alls l) (Alls m) := by
  induction h with
  | nil => exact SubA.refl _
  | cons x _ ih => exact (SubA.refl x).both ih
  | swap x y l => exact SubA.exch y x (Alls l)
  | trans _ _ h1 h2 => exact h1.trans h2
theorem no_left (Q : List Nat → World → Prop) : SubA (Both NoP Q) Q := by
  rintro G w ⟨G1, G2, rfl, rfl, h2, _⟩
  exact ⟨G2, h2, fun k => by simp⟩
theorem no_left' (Q : List Nat → World → Prop) : SubA Q (Both NoP Q) := fun G _ h => ⟨G, ⟨[], G, rfl, rfl, h, fun _ h => by cases h⟩, fun _ => Iff.rfl⟩
theorem alls_app : ∀ l m : List (List Nat → World → Prop), SubA (Alls (l ++ m)) (Both (Alls l) (Alls m))
  | [], _m => no_left' _
  | P :: l, m => ((SubA.refl P).both (alls_app l m)).trans (SubA.left _ _ _)
theorem alls_app' : ∀ l m : List (List Nat → World → Prop), SubA (Both (Alls l) (Alls m)) (Alls (l ++ m))
  | [], _m => no_left _
  | P :: l, m => (SubA.right _ _ _).trans ((SubA.refl P).both (alls_app' l m))
/-- What the call owns, all from B on. -/
def Own (B : Nat) (l : List (List Nat → World → Prop)) (w : World) : Prop := B ≤ w.heap.size ∧ ∃ G, Alls l G w ∧ ∀ k ∈ G, B ≤ k
section
variable {B : Nat} {l : List (List Nat → World → Prop)} {Q : List Nat → World → Prop} {w : World}
theorem Own.size (h : Own B l w) : B ≤ w.heap.size := h.1
theorem Own.sub {m : List (List Nat → World → Prop)} (h : Own B l w) (hs : SubA (Alls l) (Alls m)) : Own B m w := by
  obtain ⟨hz, G, h1, h2⟩ := h
  obtain ⟨G', k1, k2⟩ := hs G w h1
  exact ⟨hz, G', k1, fun k hk => h2 k ((k2 k).1 hk)⟩
theorem Own.perm {m : List (List Nat → World → Prop)} (h : Own B l w) (hp : l.Perm m) : Own B m w := h.sub (alls_perm hp)
/-- One of them comes first. -/
theorem Own.pick (l1 : List (List Nat → World → Prop)) {l2 : List (List Nat → World → Prop)} (h : Own B (l1 ++ Q :: l2) w) : Own B (Q :: (l1 ++ l2)) w := h.perm List.perm_middle
/-- It goes back to its place. -/
theorem Own.back (l1 : List (List Nat → World → Prop)) {l2 : List (List Nat → World → Prop)} (h : Own B (Q :: (l1 ++ l2)) w) : Own B (l1 ++ Q :: l2) w := h.perm List.perm_middle.symm
theorem Own.sep (h : Own B (Q :: l) w) : Sep B (Alls l) Q w := by
  obtain ⟨hz, G, ⟨G1, G2, rfl, h1, h2, h3⟩, h4⟩ := h
  exact ⟨hz, G2, G1, h2, h1, fun k hk => ⟨h4 k (List.mem_append_left _ hk), h3 k hk⟩, fun k hk => h4 k (List.mem_append_right _ hk)⟩
theorem Own.of_sep (h : Sep B (Alls l) Q w) : Own B (Q :: l) w := by
  obtain ⟨hz, G, F, h1, h2, h3, h4⟩ := h
  refine ⟨hz, F ++ G, ⟨F, G, rfl, h2, h1, fun k hk => (h3 k hk).2⟩, fun k hk => ?_⟩
  rcases List.mem_append.1 hk with h | h
  · exact (h3 k h).1
  · exact h4 k h
theorem Own.keep (hl : AllF l) {w' : World} (h : Own B l w) (hb : Below w.heap.size w w') : Own B l w' := by
  obtain ⟨hz, G, h1, h2⟩ := h
  exact ⟨Nat.le_trans hz hb.size, G, (fixed_alls hl).keep _ _ _ _ h1 (Chg.of (S := []) hb (Nat.le_refl _)) (fun _ _ h => by cases h), h2⟩
theorem Own.drew (hl : AllF l) (h : Own B l w) : Own B l w.drew := h.keep hl (Below.refl _ _).drew
/-- What a call made joins what is owned. -/
theorem Own.more {R : List Nat → World → Prop} (hl : AllF l) {w' : World} (h : Own B l w) (hb : Below w.heap.size w w') {H : List Nat} (hR : R H w') (hn : ∀ k ∈ H, w.heap.size ≤ k) : Own B (R :: l) w' := by
  have hk := h.keep hl hb
  obtain ⟨hz, G, h1, h2⟩ := h
  have hlt := (fixed_alls hl).lt _ _ h1
  have h5 := (fixed_alls hl).keep _ _ _ _ h1 (Chg.of (S := []) hb (Nat.le_refl _)) (fun _ _ h => by cases h)
  refine ⟨hk.1, H ++ G, ⟨H, G, rfl, hR, h5, fun k h3 h4 => by have := hn k h3; have := hlt k h4; omega⟩, fun k hk => ?_⟩
  rcases List.mem_append.1 hk with h | h
  · have := hn k h; omega
  · exact h2 k h
theorem Own.weak (h : Own B (Q :: l) w) : Own B l w := by
  obtain ⟨hz, G, ⟨G1, G2, rfl, h1, h2, h3⟩, h4⟩ := h
  exact ⟨hz, G2, h2, fun k hk => h4 k (List.mem_append_right _ hk)⟩
theorem Own.fst (h : Own B (Q :: l) w) : ∃ F, Q F w ∧ ∀ k ∈ F, B ≤ k := by
  obtain ⟨hz, G, ⟨G1, G2, rfl, h1, h2, h3⟩, h4⟩ := h
  exact ⟨G1, h1, fun k hk => h4 k (List.mem_append_left _ hk)⟩
/-- A call changes one of them. -/
theorem Own.onto {Q' : List Nat → World → Prop} (hl : AllF l) {w' : World} (h : Own B (Q :: l) w) (k : ∀ F, Q F w → Tod Q' F w w') : Own B (Q' :: l) w' ∧ Below B w w' := by
  obtain ⟨h1, h2⟩ := h.sep.to (fixed_alls hl) k
  exact ⟨Own.of_sep h1, h2⟩
theorem Own.imp {Q' : List Nat → World → Prop} (h : Own B (Q :: l) w) (k : ∀ F, Q F w → Q' F w) : Own B (Q' :: l) w := by
  obtain ⟨hz, G, ⟨G1, G2, rfl, h1, h2, h3⟩, h4⟩ := h
  exact ⟨hz, G1 ++ G2, ⟨G1, G2, rfl, k _ h1, h2, h3⟩, h4⟩
theorem Own.open {m : List (List Nat → World → Prop)} (h : Own B (Alls m :: l) w) : Own B (m ++ l) w := h.sub (alls_app' m l)
theorem Own.one {b : Nat} {d : DevD} (h : Own B (DevF b d :: l) w) : One B (Alls l) b d w := by
  obtain ⟨hz, G, F, h1, h2, h3, h4⟩ := h.sep
  exact ⟨hz, F, G, h2, h1, h3, h4⟩
theorem Own.of_one {b : Nat} {d : DevD} (h : One B (Alls l) b d w) : Own B (DevF b d :: l) w := by
  obtain ⟨hz, F, G, h2, h1, h3, h4⟩ := h
  exact Own.of_sep ⟨hz, G, F, h1, h2, h3, h4⟩
/-- Beside the devices, one of them apart. -/
theorem Own.one2 {b : Nat} {d : DevD} (h : Own B (DevF b d :: Q :: l) w) : One B (Both (Alls l) Q) b d w := by
  obtain ⟨hz, F, G, h1, h2, h3, h4⟩ := h.one
  obtain ⟨G', k1, k2⟩ := SubA.comm _ _ G w h2
  exact ⟨hz, F, G', h1, k1, fun k hk => ⟨(h3 k hk).1, fun hm => (h3 k hk).2 ((k2 k).1 hm)⟩, fun k hk => h4 k ((k2 k).1 hk)⟩
theorem Own.of_one2 {b : Nat} {d : DevD} (h : One B (Both (Alls l) Q) b d w) : Own B (DevF b d :: Q :: l) w := by
  obtain ⟨hz, F, G, h1, h2, h3, h4⟩ := h
  obtain ⟨G', k1, k2⟩ := SubA.comm _ _ G w h2
  exact Own.of_one (l := Q :: l) ⟨hz, F, G', h1, k1, fun k hk => ⟨(h3 k hk).1, fun hm => (h3 k hk).2 ((k2 k).1 hm)⟩, fun k hk => h4 k ((k2 k).1 hk)⟩
theorem Own.boxed {g : Nat} {t : TypeId} {cs : Array Value} (h : Own B (BoxP g t cs :: l) w) : Box w g t cs := by
  obtain ⟨F, h1, _⟩ := h.fst
  exact h1.2
/-- A block's cells are set. -/
theorem Own.set {g : Nat} {t : TypeId} {cs : Array Value} (hl : AllF l) (h : Own B (BoxP g t cs :: l) w) (j : Nat) (v : Value) : Own B (BoxP g t (cs.setIfInBounds j v) :: l) (w.setCell ⟨g, j, none⟩ v) ∧ Below B w (w.setCell ⟨g, j, none⟩ v) :=
  h.onto hl fun F hF => ⟨[g], ⟨rfl, hF.2.set j v⟩, by rw [hF.1]; exact (Chg.refl _ _).set g j v (.inl (by simp)), fun k hk => .inl (by rw [hF.1]; exact hk)⟩
/-- A new block. -/
theorem Own.alloc (hl : AllF l) (h : Own B l w) (t : TypeId) (cs : Array Value) : Own B (BoxP w.heap.size t cs :: l) (w.alloc (.cells cs t (0, 0))) :=
  h.more hl ((Below.refl _ _).alloc (Nat.le_refl _) _) (H := [w.heap.size]) ⟨rfl, Box.new w t cs⟩ fun k hk => by rw [List.mem_singleton] at hk; omega
end
end Go.Proofs.YtphhnhldbajaoaaGreatDoor

namespace Go.Proofs.YtphhnhldbajaoaaGreatDoor
open Go.RowKit

set_option maxRecDepth 100000 in
set_option maxHeartbeats 1000000 in
theorem ccheck_any (seq : Int) (a : Option Addr) (cap : Nat) (l : List CgE) (w : World) (h : SlC w a l) :
    Calls Tryz.prog 154 #[.agg #[.int .i64 seq, .slice a l.length cap]] w fun e w' => e = .returned (.int .i64 (chkC seq l)) ∧ Below w.heap.size w w' := by
  have H := Lib.hid h
  have HX := Lib.hid ((Below.refl w.heap.size w).alloc (Nat.le_refl _) (.cells #[.int .i64 seq, .slice a l.length cap] 187))
  have BX := Lib.hid (Box.new w 187 #[.int .i64 seq, .slice a l.length cap])
  clear h
  by_cases h0 : 0 ≤ seq
  · by_cases h1 : seq ≤ 1099511627776
    · by_cases h2 : l.length ≤ 7
      · have d0 : decide (seq < 0) = false := decide_eq_false (by omega)
        have d1 : decide (1099511627776 < seq) = false := decide_eq_false (by omega)
        have d2 : decide ((7 : Int) < (l.length : Int)) = false := decide_eq_false (by omega)
        go_enter Tryz.func154, Tryz.ntmps154
        go_wp2_with fail
        generalize World.alloc w _ = wx at *
        have k0 := BX.out.cell 0 _ rfl
        have k1 := BX.out.cell 1 _ rfl
        have HS := Lib.hid (And.intro h0 (And.intro h1 h2))
        clear h0 h1 BX
        go_wp2
        clear k0 k1
        go_loopw [22] (fun i wr => ∃ k : Nat, k ≤ l.length ∧ i = .int .i64 k ∧ Hid (Below w.heap.size w wr) ∧ Hid (∀ j (hj : j < l.length), j < k → MayC l[j])) (fun i _ => l.length - (RowKit.intOf i).toNat)
        case atStart => exact ⟨0, Nat.zero_le _, rfl, HX, fun j hj h => absurd h (Nat.not_lt_zero _)⟩
        case round =>
          clear HX
          obtain ⟨k, hk, rfl, HB, HA⟩ := hrel
          by_cases hlt : k < l.length
          · obtain ⟨b, off, rfl, hb, e0, e1, e2, e3⟩ := (H.out.keep HB.out).get k hlt
            have HC : Hid (MayC l[k] → ∀ j (hj : j < l.length), j < k + 1 → MayC l[j]) := fun h j hj h1 => by
              by_cases hjk : j < k
              · exact HA.out j hj hjk
              · obtain rfl : j = k := by omega
                exact h
            have HN : Hid (¬ MayC l[k] → chkC seq l = 1) := fun h => chkC_no hlt h
            have HLT := Lib.hid hlt
            generalize l[k] = x at *
            obtain ⟨xk, xs, xn, xp⟩ := x
            simp only at e0 e1 e2 e3
            go_wp2_with fail
            refine (cmay_any ⟨xk, xs, xn, xp⟩ _).mono ?_
            rintro e w1 ⟨rfl, hb⟩
            have HB1 := Lib.hid ((HB.out.alloc HB.out.size _).trans (hb.mono (by rw [size_alloc]; have := HB.out.size; omega)))
            clear hb HB HA e0 e1 e2 e3
            by_cases hm : MayC ⟨xk, xs, xn, xp⟩
            · have HA2 := Lib.hid (HC.out hm)
              rw [show decide (MayC ⟨xk, xs, xn, xp⟩) = true from decide_eq_true hm]
              clear hm
              go_wp2
              go_roundw
              case rel => exact ⟨k + 1, HLT.out, by go_num, HB1, HA2⟩
              case measure => have := HLT.out; simp [RowKit.intOf]; omega
            · have HZ := Lib.hid (HN.out hm)
              rw [show decide (MayC ⟨xk, xs, xn, xp⟩) = false from decide_eq_false hm]
              clear hm
              go_wp2
              go_ret
              exact ⟨by rw [HZ.out]; rfl, HB1.out⟩
          · obtain rfl : k = l.length := by omega
            have HZ := Lib.hid (chkC_ok HS.out (fun j hj => HA.out j hj hj))
            clear HA
            go_wp2
            go_ret
            exact ⟨by rw [HZ.out]; rfl, HB.out⟩
      · rw [chkC_bad (fun h => h2 h.2.2)]
        have d0 : decide (seq < 0) = false := decide_eq_false (by omega)
        have d1 : decide (1099511627776 < seq) = false := decide_eq_false (by omega)
        have d2 : decide ((7 : Int) < (l.length : Int)) = true := decide_eq_true (by omega)
        go_enter Tryz.func154, Tryz.ntmps154
        go_wp2_with fail
        generalize World.alloc w _ = wx at *
        have k0 := BX.out.cell 0 _ rfl
        have k1 := BX.out.cell 1 _ rfl
        clear BX
        go_wp2
        go_ret
        exact ⟨rfl, HX.out⟩
    · rw [chkC_bad (fun h => h1 h.2.1)]
      have d0 : decide (seq < 0) = false := decide_eq_false (by omega)
      have d1 : decide (1099511627776 < seq) = true := decide_eq_true (by omega)
      go_enter Tryz.func154, Tryz.ntmps154
      go_wp2_with fail
      generalize World.alloc w _ = wx at *
      have k0 := BX.out.cell 0 _ rfl
      have k1 := BX.out.cell 1 _ rfl
      clear BX
      go_wp2
      go_ret
      exact ⟨rfl, HX.out⟩
  · rw [chkC_bad (fun h => h0 h.1)]
    have d0 : decide (seq < 0) = true := decide_eq_true (by omega)
    go_enter Tryz.func154, Tryz.ntmps154
    go_wp2_with fail
    generalize World.alloc w _ = wx at *
    have k0 := BX.out.cell 0 _ rfl
    have k1 := BX.out.cell 1 _ rfl
    clear BX
    go_wp2
    go_ret
    exact ⟨rfl, HX.out⟩
end Go.Proofs.YtphhnhldbajaoaaGreatDoor
