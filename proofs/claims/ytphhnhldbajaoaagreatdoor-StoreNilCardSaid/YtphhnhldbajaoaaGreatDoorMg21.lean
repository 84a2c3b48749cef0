/-
  Texts put together: All, ClogC, Builder, ClogD.
-/
import Derived.Test.YtphhnhldbajaoaaGreatDoorMg3
import Derived.Test.YtphhnhldbajaoaaGreatDoorMg16
import Derived.Test.YtphhnhldbajaoaaGreatDoorMg0
import Derived.Test.YtphhnhldbajaoaaGreatDoorMg9
import Derived.Shelf.Strings.Builder1
import Derived.Test.YtphhnhldbajaoaaGreatDoorMg8
namespace Go.Proofs.YtphhnhldbajaoaaGreatDoor
open Go.RowKit Go.ChangeShapes Go.WideShapes Go.ChangeAt

/-- Things beside one another. -/
def Alls : List (List Nat → World → Prop) → List Nat → World → Prop
  | [] => NoP
  | P :: l => Both P (Alls l)
def AllF (l : List (List Nat → World → Prop)) : Prop := ∀ P ∈ l, Fixed P
theorem AllF.tail {P : List Nat → World → Prop} {l : List (List Nat → World → Prop)} (h : AllF (P :: l)) : AllF l := fun Q hQ => h Q (List.mem_cons_of_mem _ hQ)
theorem AllF.head {P : List Nat → World → Prop} {l : List (List Nat → World → Prop)} (h : AllF (P :: l)) : Fixed P := h P (by simp)
theorem AllF.nil : AllF [] := fun _ h => by cases h
theorem AllF.cons {P : List Nat → World → Prop} {l : List (List Nat → World → Prop)} (h : Fixed P) (k : AllF l) : AllF (P :: l) := fun Q hQ => by
  rcases List.mem_cons.1 hQ with h1 | h1
  · rw [h1]; exact h
  · exact k Q h1
theorem AllF.append {l m : List (List Nat → World → Prop)} (h : AllF l) (k : AllF m) : AllF (l ++ m) := fun Q hQ => (List.mem_append.1 hQ).elim (h Q) (k Q)
theorem fixed_alls : ∀ {l : List (List Nat → World → Prop)}, AllF l → Fixed (Alls l)
  | [], _ => fixed_no
  | _ :: _, h => fixed_both h.head (fixed_alls h.tail)
/-- The same blocks, in another order. -/
def SubA (P Q : List Nat → World → Prop) : Prop := ∀ G w, P G w → ∃ G', Q G' w ∧ ∀ k, k ∈ G' ↔ k ∈ G
theorem SubA.refl (P : List Nat → World → Prop) : SubA P P := fun G _ h => ⟨G, h, fun _ => Iff.rfl⟩
theorem SubA.trans {P Q R : List Nat → World → Prop} (h : SubA P Q) (k : SubA Q R) : SubA P R := fun G w hp => by
  obtain ⟨G1, h1, h2⟩ := h G w hp
  obtain ⟨G2, k1, k2⟩ := k G1 w h1
  exact ⟨G2, k1, fun i => (k2 i).trans (h2 i)⟩
theorem SubA.both {P P' Q Q' : List Nat → World → Prop} (h : SubA P P') (k : SubA Q Q') : SubA (Both P Q) (Both P' Q') := by
  rintro G w ⟨G1, G2, rfl, h1, h2, h3⟩
  obtain ⟨F1, f1, e1⟩ := h G1 w h1
  obtain ⟨F2, f2, e2⟩ := k G2 w h2
  refine ⟨F1 ++ F2, ⟨F1, F2, rfl, f1, f2, fun i hi hj => h3 i ((e1 i).1 hi) ((e2 i).1 hj)⟩, fun i => ?_⟩
  simp only [List.mem_append, e1, e2]
theorem SubA.comm (P Q : List Nat → World → Prop) : SubA (Both P Q) (Both Q P) := by
  rintro G w ⟨G1, G2, rfl, h1, h2, h3⟩
  refine ⟨G2 ++ G1, ⟨G2, G1, rfl, h2, h1, fun i hi hj => h3 i hj hi⟩, fun i => ?_⟩
  simp only [List.mem_append]
  exact Or.comm
theorem SubA.left (P Q R : List Nat → World → Prop) : SubA (Both P (Both Q R)) (Both (Both P Q) R) := by
  rintro G w ⟨G1, G2, rfl, h1, ⟨G3, G4, rfl, h3, h4, h5⟩, h2⟩
  refine ⟨(G1 ++ G3) ++ G4, ⟨G1 ++ G3, G4, rfl, ⟨G1, G3, rfl, h1, h3, fun i hi hj => h2 i hi (List.mem_append_left _ hj)⟩, h4, fun i hi hj => ?_⟩, fun i => by rw [List.append_assoc]⟩
  rcases List.mem_append.1 hi with h | h
  · exact h2 i h (List.mem_append_right _ hj)
  · exact h5 i h hj
theorem SubA.right (P Q R : List Nat → World → Prop) : SubA (Both (Both P Q) R) (Both P (Both Q R)) := by
  rintro G w ⟨G1, G2, rfl, ⟨G3, G4, rfl, h3, h4, h5⟩, h1, h2⟩
  refine ⟨G3 ++ (G4 ++ G2), ⟨G3, G4 ++ G2, rfl, h3, ⟨G4, G2, rfl, h4, h1, fun i hi hj => h2 i (List.mem_append_right _ hi) hj⟩, fun i hi hj => ?_⟩, fun i => by rw [List.append_assoc]⟩
  rcases List.mem_append.1 hj with h | h
  · exact h5 i hi h
  · exact h2 i (List.mem_append_left _ hi) h
theorem SubA.exch (P Q R : List Nat → World → Prop) : SubA (Both P (Both Q R)) (Both Q (Both P R)) := (SubA.left P Q R).trans (((SubA.comm P Q).both (SubA.refl R)).trans (SubA.right Q P R))
theorem alls_perm {l m : List (List Nat → World → Prop)} (h : l.Perm m) : SubA (Alls l) (Alls m) := by
  induction h with
  | nil => exact SubA.refl _
  | cons x _ ih => exact (SubA.refl x).both ih
  | swap x y l => exact SubA.exch y x (Alls l)
  | trans _ _ h1 h2 => exact h1.trans h2
theorem no_left (Q : List Nat → World → Prop) : SubA (Both NoP Q) Q := by
  rintro G w ⟨G1, G2, rfl, rfl, h2, _⟩
  exact ⟨G2, h2, fun k => by simp⟩
theorem no_left' (Q : List Nat → World → Prop) : SubA Q (Both NoP Q) := fun G _ h => ⟨G, ⟨[], G, rfl, rfl, h, fun _ h => by cases h⟩, fun _ => Iff.rfl⟩
theorem alls_app : ∀ l m : List (List Nat → World → Prop), SubA (Alls (l ++ m)) (Both (Alls l) (Alls m))
  | [], _m => no_left' _
  | P :: l, m => ((SubA.refl P).both (alls_app l m)).trans (SubA.left _ _ _)
theorem alls_app' : ∀ l m : List (List Nat → World → Prop), SubA (Both (Alls l) (Alls m)) (Alls (l ++ m))
  | [], _m => no_left _
  | P :: l, m => (SubA.right _ _ _).trans ((SubA.refl P).both (alls_app' l m))
/-- What the call owns, all from B on. -/
def Own (B : Nat) (l : List (List Nat → World → Prop)) (w : World) : Prop := B ≤ w.heap.size ∧ ∃ G, Alls l G w ∧ ∀ k ∈ G, B ≤ k
section
variable {B : Nat} {l : List (List Nat → World → Prop)} {Q : List Nat → World → Prop} {w : World}
theorem Own.size (h : Own B l w) : B ≤ w.heap.size := h.1
theorem Own.sub {m : List (List Nat → World → Prop)} (h : Own B l w) (hs : SubA (Alls l) (Alls m)) : Own B m w := by
  obtain ⟨hz, G, h1, h2⟩ := h
  obtain ⟨G', k1, k2⟩ := hs G w h1
  exact ⟨hz, G', k1, fun k hk => h2 k ((k2 k).1 hk)⟩
theorem Own.perm {m : List (List Nat → World → Prop)} (h : Own B l w) (hp : l.Perm m) : Own B m w := h.sub (alls_perm hp)
/-- One of them comes first. -/
theorem Own.pick (l1 : List (List Nat → World → Prop)) {l2 : List (List Nat → World → Prop)} (h : Own B (l1 ++ Q :: l2) w) : Own B (Q :: (l1 ++ l2)) w := h.perm List.perm_middle
/-- It goes back to its place. -/
theorem Own.back (l1 : List (List Nat → World → Prop)) {l2 : List (List Nat → World → Prop)} (h : Own B (Q :: (l1 ++ l2)) w) : Own B (l1 ++ Q :: l2) w := h.perm List.perm_middle.symm
theorem Own.sep (h : Own B (Q :: l) w) : Sep B (Alls l) Q w := by
  obtain ⟨hz, G, ⟨G1, G2, rfl, h1, h2, h3⟩, h4⟩ := h
  exact ⟨hz, G2, G1, h2, h1, fun k hk => ⟨h4 k (List.mem_append_left _ hk), h3 k hk⟩, fun k hk => h4 k (List.mem_append_right _ hk)⟩
theorem Own.of_sep (h : Sep B (Alls l) Q w) : Own B (Q :: l) w := by
  obtain ⟨hz, G, F, h1, h2, h3, h4⟩ := h
  refine ⟨hz, F ++ G, ⟨F, G, rfl, h2, h1, fun k hk => (h3 k hk).2⟩, fun k hk => ?_⟩
  rcases List.mem_append.1 hk with h | h
  · exact (h3 k h).1
  · exact h4 k h
theorem Own.keep (hl : AllF l) {w' : World} (h : Own B l w) (hb : Below w.heap.size w w') : Own B l w' := by
  obtain ⟨hz, G, h1, h2⟩ := h
  exact ⟨Nat.le_trans hz hb.size, G, (fixed_alls hl).keep _ _ _ _ h1 (Chg.of (S := []) hb (Nat.le_refl _)) (fun _ _ h => by cases h), h2⟩
theorem Own.drew (hl : AllF l) (h : Own B l w) : Own B l w.drew := h.keep hl (Below.refl _ _).drew
/-- What a call made joins what is owned. -/
theorem Own.more {R : List Nat → World → Prop} (hl : AllF l) {w' : World} (h : Own B l w) (hb : Below w.heap.size w w') {H : List Nat} (hR : R H w') (hn : ∀ k ∈ H, w.heap.size ≤ k) : Own B (R :: l) w' := by
  have hk := h.keep hl hb
  obtain ⟨hz, G, h1, h2⟩ := h
  have hlt := (fixed_alls hl).lt _ _ h1
  have h5 := (fixed_alls hl).keep _ _ _ _ h1 (Chg.of (S := []) hb (Nat.le_refl _)) (fun _ _ h => by cases h)
  refine ⟨hk.1, H ++ G, ⟨H, G, rfl, hR, h5, fun k h3 h4 => by have := hn k h3; have := hlt k h4; omega⟩, fun k hk => ?_⟩
  rcases List.mem_append.1 hk with h | h
  · have := hn k h; omega
  · exact h2 k h
theorem Own.weak (h : Own B (Q :: l) w) : Own B l w := by
  obtain ⟨hz, G, ⟨G1, G2, rfl, h1, h2, h3⟩, h4⟩ := h
  exact ⟨hz, G2, h2, fun k hk => h4 k (List.mem_append_right _ hk)⟩
theorem Own.fst (h : Own B (Q :: l) w) : ∃ F, Q F w ∧ ∀ k ∈ F, B ≤ k := by
  obtain ⟨hz, G, ⟨G1, G2, rfl, h1, h2, h3⟩, h4⟩ := h
  exact ⟨G1, h1, fun k hk => h4 k (List.mem_append_left _ hk)⟩
/-- A call changes one of them. -/
theorem Own.onto {Q' : List Nat → World → Prop} (hl : AllF l) {w' : World} (h : Own B (Q :: l) w) (k : ∀ F, Q F w → Tod Q' F w w') : Own B (Q' :: l) w' ∧ Below B w w' := by
  obtain ⟨h1, h2⟩ := h.sep.to (fixed_alls hl) k
  exact ⟨Own.of_sep h1, h2⟩
theorem Own.imp {Q' : List Nat → World → Prop} (h : Own B (Q :: l) w) (k : ∀ F, Q F w → Q' F w) : Own B (Q' :: l) w := by
  obtain ⟨hz, G, ⟨G1, G2, rfl, h1, h2, h3⟩, h4⟩ := h
  exact ⟨hz, G1 ++ G2, ⟨G1, G2, rfl, k _ h1, h2, h3⟩, h4⟩
theorem Own.open {m : List (List Nat → World → Prop)} (h : Own B (Alls m :: l) w) : Own B (m ++ l) w := h.sub (alls_app' m l)
theorem Own.one {b : Nat} {d : DevD} (h : Own B (DevF b d :: l) w) : One B (Alls l) b d w := by
  obtain ⟨hz, G, F, h1, h2, h3, h4⟩ := h.sep
  exact ⟨hz, F, G, h2, h1, h3, h4⟩
theorem Own.of_one {b : Nat} {d : DevD} (h : One B (Alls l) b d w) : Own B (DevF b d :: l) w := by
  obtain ⟨hz, F, G, h2, h1, h3, h4⟩ := h
  exact Own.of_sep ⟨hz, G, F, h1, h2, h3, h4⟩
/-- Beside the devices, one of them apart. -/
theorem Own.one2 {b : Nat} {d : DevD} (h : Own B (DevF b d :: Q :: l) w) : One B (Both (Alls l) Q) b d w := by
  obtain ⟨hz, F, G, h1, h2, h3, h4⟩ := h.one
  obtain ⟨G', k1, k2⟩ := SubA.comm _ _ G w h2
  exact ⟨hz, F, G', h1, k1, fun k hk => ⟨(h3 k hk).1, fun hm => (h3 k hk).2 ((k2 k).1 hm)⟩, fun k hk => h4 k ((k2 k).1 hk)⟩
theorem Own.of_one2 {b : Nat} {d : DevD} (h : One B (Both (Alls l) Q) b d w) : Own B (DevF b d :: Q :: l) w := by
  obtain ⟨hz, F, G, h1, h2, h3, h4⟩ := h
  obtain ⟨G', k1, k2⟩ := SubA.comm _ _ G w h2
  exact Own.of_one (l := Q :: l) ⟨hz, F, G', h1, k1, fun k hk => ⟨(h3 k hk).1, fun hm => (h3 k hk).2 ((k2 k).1 hm)⟩, fun k hk => h4 k ((k2 k).1 hk)⟩
theorem Own.boxed {g : Nat} {t : TypeId} {cs : Array Value} (h : Own B (BoxP g t cs :: l) w) : Box w g t cs := by
  obtain ⟨F, h1, _⟩ := h.fst
  exact h1.2
/-- A block's cells are set. -/
theorem Own.set {g : Nat} {t : TypeId} {cs : Array Value} (hl : AllF l) (h : Own B (BoxP g t cs :: l) w) (j : Nat) (v : Value) : Own B (BoxP g t (cs.setIfInBounds j v) :: l) (w.setCell ⟨g, j, none⟩ v) ∧ Below B w (w.setCell ⟨g, j, none⟩ v) :=
  h.onto hl fun F hF => ⟨[g], ⟨rfl, hF.2.set j v⟩, by rw [hF.1]; exact (Chg.refl _ _).set g j v (.inl (by simp)), fun k hk => .inl (by rw [hF.1]; exact hk)⟩
/-- A new block. -/
theorem Own.alloc (hl : AllF l) (h : Own B l w) (t : TypeId) (cs : Array Value) : Own B (BoxP w.heap.size t cs :: l) (w.alloc (.cells cs t (0, 0))) :=
  h.more hl ((Below.refl _ _).alloc (Nat.le_refl _) _) (H := [w.heap.size]) ⟨rfl, Box.new w t cs⟩ fun k hk => by rw [List.mem_singleton] at hk; omega
end
end Go.Proofs.YtphhnhldbajaoaaGreatDoor

namespace Go.Proofs.YtphhnhldbajaoaaGreatDoor
open Go.RowKit

set_option maxRecDepth 100000 in
set_option maxHeartbeats 1000000 in
theorem ccheck_any (seq : Int) (a : Option Addr) (cap : Nat) (l : List CgE) (w : World) (h : SlC w a l) :
    Calls Tryz.prog 154 #[.agg #[.int .i64 seq, .slice a l.length cap]] w fun e w' => e = .returned (.int .i64 (chkC seq l)) ∧ Below w.heap.size w w' := by
  have H := Lib.hid h
  have HX := Lib.hid ((Below.refl w.heap.size w).alloc (Nat.le_refl _) (.cells #[.int .i64 seq, .slice a l.length cap] 187))
  have BX := Lib.hid (Box.new w 187 #[.int .i64 seq, .slice a l.length cap])
  clear h
  by_cases h0 : 0 ≤ seq
  · by_cases h1 : seq ≤ 1099511627776
    · by_cases h2 : l.length ≤ 7
      · have d0 : decide (seq < 0) = false := decide_eq_false (by omega)
        have d1 : decide (1099511627776 < seq) = false := decide_eq_false (by omega)
        have d2 : decide ((7 : Int) < (l.length : Int)) = false := decide_eq_false (by omega)
        go_enter Tryz.func154, Tryz.ntmps154
        go_wp2_with fail
        generalize World.alloc w _ = wx at *
        have k0 := BX.out.cell 0 _ rfl
        have k1 := BX.out.cell 1 _ rfl
        have HS := Lib.hid (And.intro h0 (And.intro h1 h2))
        clear h0 h1 BX
        go_wp2
        clear k0 k1
        go_loopw [22] (fun i wr => ∃ k : Nat, k ≤ l.length ∧ i = .int .i64 k ∧ Hid (Below w.heap.size w wr) ∧ Hid (∀ j (hj : j < l.length), j < k → MayC l[j])) (fun i _ => l.length - (RowKit.intOf i).toNat)
        case atStart => exact ⟨0, Nat.zero_le _, rfl, HX, fun j hj h => absurd h (Nat.not_lt_zero _)⟩
        case round =>
          clear HX
          obtain ⟨k, hk, rfl, HB, HA⟩ := hrel
          by_cases hlt : k < l.length
          · obtain ⟨b, off, rfl, hb, e0, e1, e2, e3⟩ := (H.out.keep HB.out).get k hlt
            have HC : Hid (MayC l[k] → ∀ j (hj : j < l.length), j < k + 1 → MayC l[j]) := fun h j hj h1 => by
              by_cases hjk : j < k
              · exact HA.out j hj hjk
              · obtain rfl : j = k := by omega
                exact h
            have HN : Hid (¬ MayC l[k] → chkC seq l = 1) := fun h => chkC_no hlt h
            have HLT := Lib.hid hlt
            generalize l[k] = x at *
            obtain ⟨xk, xs, xn, xp⟩ := x
            simp only at e0 e1 e2 e3
            go_wp2_with fail
            refine (cmay_any ⟨xk, xs, xn, xp⟩ _).mono ?_
            rintro e w1 ⟨rfl, hb⟩
            have HB1 := Lib.hid ((HB.out.alloc HB.out.size _).trans (hb.mono (by rw [size_alloc]; have := HB.out.size; omega)))
            clear hb HB HA e0 e1 e2 e3
            by_cases hm : MayC ⟨xk, xs, xn, xp⟩
            · have HA2 := Lib.hid (HC.out hm)
              rw [show decide (MayC ⟨xk, xs, xn, xp⟩) = true from decide_eq_true hm]
              clear hm
              go_wp2
              go_roundw
              case rel => exact ⟨k + 1, HLT.out, by go_num, HB1, HA2⟩
              case measure => have := HLT.out; simp [RowKit.intOf]; omega
            · have HZ := Lib.hid (HN.out hm)
              rw [show decide (MayC ⟨xk, xs, xn, xp⟩) = false from decide_eq_false hm]
              clear hm
              go_wp2
              go_ret
              exact ⟨by rw [HZ.out]; rfl, HB1.out⟩
          · obtain rfl : k = l.length := by omega
            have HZ := Lib.hid (chkC_ok HS.out (fun j hj => HA.out j hj hj))
            clear HA
            go_wp2
            go_ret
            exact ⟨by rw [HZ.out]; rfl, HB.out⟩
      · rw [chkC_bad (fun h => h2 h.2.2)]
        have d0 : decide (seq < 0) = false := decide_eq_false (by omega)
        have d1 : decide (1099511627776 < seq) = false := decide_eq_false (by omega)
        have d2 : decide ((7 : Int) < (l.length : Int)) = true := decide_eq_true (by omega)
        go_enter Tryz.func154, Tryz.ntmps154
        go_wp2_with fail
        generalize World.alloc w _ = wx at *
        have k0 := BX.out.cell 0 _ rfl
        have k1 := BX.out.cell 1 _ rfl
        clear BX
        go_wp2
        go_ret
        exact ⟨rfl, HX.out⟩
    · rw [chkC_bad (fun h => h1 h.2.1)]
      have d0 : decide (seq < 0) = false := decide_eq_false (by omega)
      have d1 : decide (1099511627776 < seq) = true := decide_eq_true (by omega)
      go_enter Tryz.func154, Tryz.ntmps154
      go_wp2_with fail
      generalize World.alloc w _ = wx at *
      have k0 := BX.out.cell 0 _ rfl
      have k1 := BX.out.cell 1 _ rfl
      clear BX
      go_wp2
      go_ret
      exact ⟨rfl, HX.out⟩
  · rw [chkC_bad (fun h => h0 h.1)]
    have d0 : decide (seq < 0) = true := decide_eq_true (by omega)
    go_enter Tryz.func154, Tryz.ntmps154
    go_wp2_with fail
    generalize World.alloc w _ = wx at *
    have k0 := BX.out.cell 0 _ rfl
    have k1 := BX.out.cell 1 _ rfl
    clear BX
    go_wp2
    go_ret
    exact ⟨rfl, HX.out⟩
end Go.Proofs.YtphhnhldbajaoaaGreatDoor

namespace Go.Proofs.YtphhnhldbajaoaaGreatDoor
open Go.RowKit

/-- The builder in block b holds the bytes l; its buffer and itself are the call's own from B on. -/
def IsBd (w : World) (B b : Nat) (l : List UInt8) : Prop := Lib.IsBuilder 226 5 B b (Lib.byteCells l) w
theorem sizeBd : (Tryz.prog.info? 226).map (·.size) = some 2 := by kernel_rfl
theorem liesBd : liesAt Tryz.prog Tryz.prog.depth 226 (2 / Tryz.prog.cellsOf 226) 0 226 1 = true := by kernel_rfl
theorem infoBd : (Tryz.prog.info? 5).map (fun i => (i.zero, i.size, i.bytes)) = some (some (.int .u8 0), 1, 1) := by kernel_rfl

theorem IsBd.new (w : World) (B : Nat) (hB : B ≤ w.heap.size) : IsBd (w.alloc (.cells #[.pointer none, .slice none 0 0] 226)) B w.heap.size [] :=
  .inl ⟨hB, .slice none 0 0, heap_alloc_new w _, World.ownsRow_nil _ _ _ _, by simp [Value.ownBlock]⟩

set_option maxRecDepth 100000 in
set_option maxHeartbeats 1000000 in
theorem bdcheck_fresh (b : Nat) (w : World) (h0 : w.cell? ⟨b, 0, none⟩ = some (.pointer none)) (hsh : w.shape? b = some (226, 2)) (hfz : w.frozen? ⟨b, 0, none⟩ = false) :
    Calls Tryz.prog 174 #[.pointer (some ⟨b, 0, none⟩)] w fun e w' => e = .returned (.tuple #[]) ∧ w' = w.setCell ⟨b, 0, none⟩ (.pointer (some ⟨b, 0, none⟩)) := by
  obtain ⟨j, hj, hjs⟩ := Option.map_eq_some_iff.1 sizeBd
  go_enter Tryz.func174, Tryz.ntmps174
  go_wp2
  rw [Lib.run_to_unsafe w ⟨b, 0, none⟩ Tryz.underlying224 Tryz.underlying245 hj (by rw [hjs]; decide) hsh (Nat.zero_lt_succ 1)]
  simp only [Result.andThen]
  rw [Oper.upon_value]
  go_wp2
  rw [run_callFunc_extern Tryz.func180 (by kernel_rfl) (by kernel_rfl) (by kernel_rfl) (e := Extern.AbiNoEscape.same) (by kernel_rfl)]
  rw [Lib.run_noEscape]
  simp only [Result.andThen]
  rw [Oper.upon_value]
  go_wp2
  rw [Lib.run_from_unsafe w ⟨b, 0, none⟩ Tryz.underlying245 Tryz.underlying224 hj hsh liesBd]
  simp only [Result.andThen]
  rw [Oper.upon_value]
  go_wp2
  go_end0
  exact ⟨rfl, rfl⟩

set_option maxRecDepth 100000 in
set_option maxHeartbeats 1000000 in
theorem bdcheck_used (b : Nat) (w : World) (h0 : w.cell? ⟨b, 0, none⟩ = some (.pointer (some ⟨b, 0, none⟩))) :
    Calls Tryz.prog 174 #[.pointer (some ⟨b, 0, none⟩)] w fun e w' => e = .returned (.tuple #[]) ∧ w' = w := by
  obtain ⟨j, hj, _⟩ := Option.map_eq_some_iff.1 sizeBd
  go_enter Tryz.func174, Tryz.ntmps174
  go_wp2
  rw [Lib.run_neq_ptr_same w _ Tryz.underlying224 hj]
  go_wp2
  go_end0
  exact ⟨rfl, rfl⟩

theorem bdcheck_any (B b : Nat) (l : List UInt8) (w : World) (h : IsBd w B b l) :
    Calls Tryz.prog 174 #[.pointer (some ⟨b, 0, none⟩)] w fun e w' => e = .returned (.tuple #[]) ∧ Lib.BuilderAt 226 5 B b (.pointer (some ⟨b, 0, none⟩)) (Lib.byteCells l) w' ∧ Below B w w' := by
  rcases h with h | h
  · refine (bdcheck_fresh b w h.cell0 h.shape h.frozen0).mono ?_
    rintro e w' ⟨rfl, rfl⟩
    exact ⟨rfl, h.used _, (Below.refl B w).setCell (p := ⟨b, 0, none⟩) h.1 _⟩
  · refine (bdcheck_used b w h.cell0).mono ?_
    rintro e w' ⟨rfl, rfl⟩
    exact ⟨rfl, h, Below.refl B _⟩

set_option maxRecDepth 100000 in
set_option maxHeartbeats 2000000 in
/-- 'b.WriteString(s)'. -/
theorem wstr_any (B b : Nat) (l : List UInt8) (s : ByteArray) (w : World) (h : IsBd w B b l) (hlen : l.length + s.size ≤ 1000000) (hBw : B ≤ w.heap.size) :
    Calls Tryz.prog 163 #[.pointer (some ⟨b, 0, none⟩), .string s] w fun e w' => e = .returned (.tuple #[.int .i64 s.size, .nilIface]) ∧ IsBd w' B b (l ++ s.data.toList) ∧ Below B w w' := by
  obtain ⟨i0, hi, hz0, hz1, hz2⟩ := info_parts infoBd
  have hll : (Lib.byteCells l).length = l.length := Lib.byteCells_length l
  go_enter Tryz.func163, Tryz.ntmps163
  go_wp2_with fail
  refine (bdcheck_any B b l _ h).mono ?_
  rintro e w1 ⟨rfl, h1, hb1⟩
  obtain ⟨hB, v, hbk, hown, hne⟩ := h1
  have c0 : w1.cell? ⟨b, 0, none⟩ = some (.pointer (some ⟨b, 0, none⟩)) := by rw [Lib.cell_of_heap hbk]; rfl
  have c1 : w1.cell? ⟨b, 1, none⟩ = some v := by rw [Lib.cell_of_heap hbk]; rfl
  go_wp2_with (at_builtin; refine Lib.wpList_append_own_string _ rfl _ _ 80 9 rfl B 5 i0 Tryz.underlying80 Tryz.underlying9 hi hz0 hz1 hz2 _ _ _ rfl hown s rfl ?c3 ?c4 ?c5 ?_)
  case c3 => rw [hll]; unfold maxLen; omega
  case c4 => rw [hll]; omega
  case c5 => have := hb1.size; omega
  intro v' w2 hown' hgrow _
  have hlt : b < w1.heap.size := lt_of_block hbk
  have hb2 : w2.heap[b]? = some (.cells #[.pointer (some ⟨b, 0, none⟩), v] 226 (0, 0)) := by
    rw [hgrow.block b hlt (fun e => hne e.symm)]
    exact hbk
  have d0 : w2.cell? ⟨b, 0, none⟩ = some (.pointer (some ⟨b, 0, none⟩)) := by rw [Lib.cell_of_heap hb2]; rfl
  have d1 : w2.cell? ⟨b, 1, none⟩ = some v := by rw [Lib.cell_of_heap hb2]; rfl
  have f1 : w2.frozen? ⟨b, 1, none⟩ = false := Lib.frozen_of_heap hb2 1
  obtain ⟨ao, n', cap, rfl⟩ : ∃ ao n' cap, v' = .slice ao n' cap := by
    rcases hown'.2 with ⟨hv, _⟩ | ⟨g, cap, cur, hv, _⟩
    · exact ⟨_, _, _, hv⟩
    · exact ⟨_, _, _, hv⟩
  go_wp2
  go_ret2
  refine ⟨rfl, .inr ?_, ?_⟩
  · rw [Lib.byteCells_append, ← Lib.strCells_eq]
    exact Lib.BuilderAt.put (T := 226) (e := 5) hB hb2 (bs' := Lib.byteCells l ++ Lib.strCells s) (by rw [List.length_append, Lib.strCells_length, hll]; exact hown') (by decide)
  · exact (hb1.grown hgrow (by have := hb1.size; omega) (fun k hk => (hown.lt k hk).1)).setCell (p := ⟨b, 1, none⟩) hB _

/-! String: the shelf's contract, laid by names. -/
def bdRen : Go.Shelf.Ren := ⟨fun | 169 => 165 | n => n, fun | 70 => 224 | 9 => 9 | 0 => 0 | 72 => 226 | 37 => 80 | 127 => 240 | 3 => 3 | 5 => 5 | n => n, fun | n => n⟩
theorem bdLays : Go.Proofs.Lays.n169 Tryz.prog bdRen := {
  mixed := by kernel_rfl
  f169 := Tryz.func165.trans (congrArg some (by kernel_rfl))
  t0 := Tryz.underlying0
  a0 := Tryz.isAgg0
  z0 := Tryz.sizeOf0
  v0 := Tryz.zeroValue0
  t3 := Tryz.underlying3
  a3 := Tryz.isAgg3
  z3 := Tryz.sizeOf3
  v3 := Tryz.zeroValue3
  t9 := Tryz.underlying9
  a9 := Tryz.isAgg9
  z9 := Tryz.sizeOf9
  v9 := Tryz.zeroValue9
  t37 := Tryz.underlying80
  a37 := Tryz.isAgg80
  z37 := Tryz.sizeOf80
  v37 := Tryz.zeroValue80
  t70 := Tryz.underlying224
  a70 := Tryz.isAgg224
  z70 := Tryz.sizeOf224
  v70 := Tryz.zeroValue224
  t72 := Tryz.underlying226
  a72 := Tryz.isAgg226
  z72 := Tryz.sizeOf226
  v72 := Tryz.zeroValue226
  t127 := Tryz.underlying240
  a127 := Tryz.isAgg240
  z127 := Tryz.sizeOf240
  v127 := Tryz.zeroValue240 }
theorem bdExtra : Builder.Extra Tryz.prog bdRen := {
  sizeBuilder := by kernel_rfl
  liesBuilder := by kernel_rfl
  t5 := Tryz.underlying5
  a5 := Tryz.isAgg5
  z5 := Tryz.sizeOf5
  v5 := Tryz.zeroValue5
  infoByte := by kernel_rfl
  cellsByte := by kernel_rfl
  sizeByte := by kernel_rfl
  neB5 := by decide }
theorem bstr_any (B b : Nat) (l : List UInt8) (w : World) (h : IsBd w B b l) (hBw : B ≤ w.heap.size) :
    Calls Tryz.prog 165 #[.pointer (some ⟨b, 0, none⟩)] w fun e w' => e = .returned (.string ⟨l.toArray⟩) ∧ Below B w w' := Any.Builder_String_any bdLays bdExtra B b l w h hBw
end Go.Proofs.YtphhnhldbajaoaaGreatDoor

namespace Go.Proofs.YtphhnhldbajaoaaGreatDoor
open Go.RowKit

/-- The builder in block b holds the text S; its buffer lies behind it. -/
def IsBs (w : World) (b : Nat) (S : ByteArray) : Prop := IsBd w b b S.data.toList
theorem IsBd.keep {w w' : World} {B b : Nat} {l : List UInt8} (h : IsBd w B b l) (hb : Below w.heap.size w w') : IsBd w' B b l := by
  have key : ∀ p, Lib.BuilderAt 226 5 B b p (Lib.byteCells l) w → Lib.BuilderAt 226 5 B b p (Lib.byteCells l) w' := by
    rintro p ⟨hB, v, hbk, hown, hne⟩
    exact ⟨hB, v, (hb.block b (lt_of_block hbk)).trans hbk, ownsRow_of hown fun k _ hlt => hb.block k hlt, hne⟩
  rcases h with h | h
  · exact .inl (key _ h)
  · exact .inr (key _ h)
theorem IsBd.lt {w : World} {B b : Nat} {l : List UInt8} (h : IsBd w B b l) : b < w.heap.size := by
  rcases h with h | h
  · exact h.lt
  · exact h.lt
theorem IsBs.keep {w w' : World} {b : Nat} {S : ByteArray} (h : IsBs w b S) (hb : Below w.heap.size w w') : IsBs w' b S := IsBd.keep h hb
theorem IsBs.lt {w : World} {b : Nat} {S : ByteArray} (h : IsBs w b S) : b < w.heap.size := IsBd.lt h
theorem IsBs.new (w : World) : IsBs (w.alloc (.cells #[.pointer none, .slice none 0 0] 226)) w.heap.size ⟨#[]⟩ := IsBd.new w _ (Nat.le_refl _)
theorem wstr_bs (b : Nat) (S s : ByteArray) (w : World) (h : IsBs w b S) (hl : S.size + s.size ≤ 1000000) :
    Calls Tryz.prog 163 #[.pointer (some ⟨b, 0, none⟩), .string s] w fun e w' => e = .returned (.tuple #[.int .i64 s.size, .nilIface]) ∧ IsBs w' b (S ++ s) ∧ Below b w w' := by
  refine (wstr_any b b _ s w h (by rw [Array.length_toList]; exact hl) (Nat.le_of_lt h.lt)).mono ?_
  rintro e w' ⟨rfl, h1, h2⟩
  refine ⟨rfl, ?_, h2⟩
  unfold IsBs
  rw [ByteArray.data_append, Array.toList_append]
  exact h1
theorem bstr_bs (b : Nat) (S : ByteArray) (w : World) (h : IsBs w b S) :
    Calls Tryz.prog 165 #[.pointer (some ⟨b, 0, none⟩)] w fun e w' => e = .returned (.string S) ∧ Below b w w' :=
  bstr_any b b _ w h (Nat.le_of_lt h.lt)

def markC : ByteArray := ⟨#[80, 76]⟩
def entB (x : CgE) : ByteArray := textB x.key 1 ++ x.sum ++ putB x.len 2 ++ putB x.pos 2
def headC (seq : Int) (n : Nat) : ByteArray := markC ++ putB seq 6 ++ putB n 1
def entsK (acc : ByteArray) (l : List CgE) : ByteArray := l.foldl (fun s x => s ++ entB x) acc
def bodyC (seq : Int) (l : List CgE) : ByteArray := entsK (headC seq l.length) l
/-- Encode's answer. -/
def encC (seq : Int) (l : List CgE) : ByteArray × Int := if chkC seq l = 0 then (bodyC seq l ++ sha (bodyC seq l), 0) else (⟨#[]⟩, chkC seq l)
theorem entsK_snoc (acc : ByteArray) (l : List CgE) (k : Nat) (h : k < l.length) : entsK acc (l.take (k + 1)) = entsK acc (l.take k) ++ entB l[k] := by
  rw [List.take_succ_eq_append_getElem h]
  unfold entsK
  rw [List.foldl_append]
  rfl
theorem textB_le (s : ByteArray) (w : Int) : (textB s w).size ≤ 7 + s.size := by
  unfold textB
  split
  · exact Nat.zero_le _
  · have := putB_size s.size w
    rw [ByteArray.size_append]
    omega
theorem entB_le {x : CgE} (h : MayC x) : (entB x).size ≤ 120 := by
  obtain ⟨h1, h2, h3, _⟩ := h
  have a1 := textB_le x.key 1
  have a2 := putB_size x.len 2
  have a3 := putB_size x.pos 2
  unfold entB
  simp only [ByteArray.size_append]
  omega
theorem headC_le (seq : Int) (n : Nat) : (headC seq n).size ≤ 16 := by
  have a2 := putB_size seq 6
  have a3 := putB_size n 1
  have a1 : markC.size = 2 := rfl
  unfold headC
  simp only [ByteArray.size_append]
  omega
theorem entsK_le : ∀ (l : List CgE) (acc : ByteArray), (∀ x ∈ l, MayC x) → (entsK acc l).size ≤ acc.size + 120 * l.length
  | [], _, _ => Nat.le_add_right _ _
  | x :: r, acc, h => by
    have h1 := entsK_le r (acc ++ entB x) (fun y hy => h y (List.mem_cons_of_mem _ hy))
    have h2 := entB_le (h x List.mem_cons_self)
    rw [ByteArray.size_append] at h1
    show (entsK (acc ++ entB x) r).size ≤ _
    simp only [List.length_cons]
    omega
theorem chkC_zero {seq : Int} {l : List CgE} (h : chkC seq l = 0) : 0 ≤ seq ∧ seq ≤ 1099511627776 ∧ l.length ≤ 7 ∧ ∀ x ∈ l, MayC x := by
  unfold chkC at h
  split at h
  · assumption
  · cases h
theorem chkC_or (seq : Int) (l : List CgE) : chkC seq l = 0 ∨ chkC seq l = 1 := by
  unfold chkC
  split
  · exact .inl rfl
  · exact .inr rfl
end Go.Proofs.YtphhnhldbajaoaaGreatDoor
