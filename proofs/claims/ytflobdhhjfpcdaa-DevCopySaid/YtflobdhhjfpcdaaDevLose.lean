/-
  Contracts of package dev: forget, Spoil, Lose.
-/
import Derived.Test.YtflobdhhjfpcdaaDevForget
import Derived.Test.YtflobdhhjfpcdaaDevRead
import Derived.StillTailTactics
namespace Go.Proofs.Ytflobdhhjfpcdaa
open Go.RowKit Go.ChangeShapes Go.WideShapes Go.ChangeAt

/-- The model's '==' at a Loc. -/
theorem eqLocD (x1 x2 y1 y2 : Int) (w : World) : (Op.equalIn 10000 29 (.agg #[.int .i64 x1, .int .i64 x2]) (.agg #[.int .i64 y1, .int .i64 y2])).run Try.prog w = .ok (x1 == y1 && x2 == y2) w := by
  have u3 := Try.underlying3
  have a3 := Try.isAgg3
  have z3 := Try.sizeOf3
  have hS : Try.prog.underlying 29 = some (.struct (Try.prog.fieldsOf 29)) := by kernel_rfl
  have hp : Try.prog.stoodInHeld 29 = false := by kernel_rfl
  rw [show (10000 : Nat) = 9999 + 1 from rfl, run_equalIn_agg w 9999 29 _ _ hS hp]
  simp only [Program.fieldsOf, Try.underlying29]
  go_simp
  by_cases h1 : x1 = y1 <;> by_cases h2 : x2 = y2 <;> simp [h1, h2]

theorem lose1_any (x : Int × Int) (g : Nat) (dev : Int) (w : World) (hg : w.cell? ⟨g, 0, none⟩ = some (.int .i64 dev)) (hg2 : g < w.heap.size) :
    Calls Try.prog 37 #[locV x, .pointer (some ⟨g, 0, none⟩)] w fun e w' => e = .returned (.bool (x.1 == dev)) ∧ Below w.heap.size w w' := by
  obtain ⟨d, at'⟩ := x
  unfold locV
  go_enter Try.func37, Try.ntmps37
  go_wp2
  go_ret
  exact ⟨rfl, (Below.refl _ _).alloc (Nat.le_refl _) _⟩

theorem spoil1_any (x l : Int × Int) (g : Nat) (w : World) (hg0 : w.cell? ⟨g, 0, none⟩ = some (.int .i64 l.1)) (hg1 : w.cell? ⟨g, 1, none⟩ = some (.int .i64 l.2)) (hg2 : g < w.heap.size) :
    Calls Try.prog 38 #[locV x, .pointer (some ⟨g, 0, none⟩)] w fun e w' => e = .returned (.bool (x.1 == l.1 && x.2 == l.2)) ∧ Below w.heap.size w w' := by
  obtain ⟨x1, x2⟩ := x
  obtain ⟨y1, y2⟩ := l
  unfold locV
  simp only at hg0 hg1
  have hq : ∀ w, (Op.equalIn 10000 29 (.agg #[.int .i64 x1, .int .i64 x2]) (.agg #[.int .i64 y1, .int .i64 y2])).run Try.prog w = .ok (x1 == y1 && x2 == y2) w := fun w => eqLocD x1 x2 y1 y2 w
  generalize (x1 == y1 && x2 == y2) = bb at *
  go_enter Try.func38, Try.ntmps38
  go_wp2
  go_ret
  exact ⟨rfl, (Below.refl _ _).alloc (Nat.le_refl _) _⟩

/-- What a closure of Locs answers, as long as nothing but blocks of S has changed. -/
def OfAt (f : FuncId) (C : Nat) (R : Int × Int → Bool) (S : List Nat) (w : World) : Prop :=
  ∀ w', Chg S w w' → ∀ x : Int × Int, Calls Try.prog f #[locV x, .pointer (some ⟨C, 0, none⟩)] w' fun e w'' => e = .returned (.bool (R x)) ∧ Below w'.heap.size w' w''

theorem forget1_lose (C : Nat) (R : Int × Int → Bool) (S : List Nat) (G : Nat) (w : World) (hf : OfAt 37 C R S w) (hG : w.cell? ⟨G, 0, none⟩ = some (.func (.func 37) #[] #[.pointer (some ⟨C, 0, none⟩)])) (hg2 : G < w.heap.size) (hGS : G ∉ S) : DelAt G (fun x => R x.1) S w := by
  intro w' hc x
  obtain ⟨⟨a, b⟩, s⟩ := x
  have hG' : w'.cell? ⟨G, 0, none⟩ = some (.func (.func 37) #[] #[.pointer (some ⟨C, 0, none⟩)]) := by rw [World.cell?_of_block (hc.block G hg2 hGS)]; exact hG
  have HF := Lib.hid hf
  have HC := Lib.hid hc
  have hlt := Nat.lt_of_lt_of_le hg2 hc.size
  have hGA : ∀ o : Obj, (w'.alloc o).cell? ⟨G, 0, none⟩ = some (.func (.func 37) #[] #[.pointer (some ⟨C, 0, none⟩)]) := fun o => by
    rw [((Below.refl w'.heap.size w').alloc (Nat.le_refl _) o).cell (p := ⟨G, 0, none⟩) hlt]; exact hG'
  clear hf hc hG
  go_enter Try.func41, Try.ntmps41
  go_wp2_with fail
  refine (HF.out _ (HC.out.trans (Chg.of ((Below.refl w'.heap.size w').alloc (Nat.le_refl _) _) (Nat.le_refl _))) (a, b)).mono ?_
  rintro e w2 ⟨rfl, hb⟩
  have HB := Lib.hid (((Below.refl w'.heap.size w').alloc (Nat.le_refl _) _).trans (hb.mono (by rw [size_alloc]; omega)))
  clear hb hG' hGA
  go_wp2
  go_ret
  exact ⟨rfl, HB.out⟩

theorem forget1_spoil (C : Nat) (R : Int × Int → Bool) (S : List Nat) (G : Nat) (w : World) (hf : OfAt 38 C R S w) (hG : w.cell? ⟨G, 0, none⟩ = some (.func (.func 38) #[] #[.pointer (some ⟨C, 0, none⟩)])) (hg2 : G < w.heap.size) (hGS : G ∉ S) : DelAt G (fun x => R x.1) S w := by
  intro w' hc x
  obtain ⟨⟨a, b⟩, s⟩ := x
  have hG' : w'.cell? ⟨G, 0, none⟩ = some (.func (.func 38) #[] #[.pointer (some ⟨C, 0, none⟩)]) := by rw [World.cell?_of_block (hc.block G hg2 hGS)]; exact hG
  have HF := Lib.hid hf
  have HC := Lib.hid hc
  have hlt := Nat.lt_of_lt_of_le hg2 hc.size
  have hGA : ∀ o : Obj, (w'.alloc o).cell? ⟨G, 0, none⟩ = some (.func (.func 38) #[] #[.pointer (some ⟨C, 0, none⟩)]) := fun o => by
    rw [((Below.refl w'.heap.size w').alloc (Nat.le_refl _) o).cell (p := ⟨G, 0, none⟩) hlt]; exact hG'
  clear hf hc hG
  go_enter Try.func41, Try.ntmps41
  go_wp2_with fail
  refine (HF.out _ (HC.out.trans (Chg.of ((Below.refl w'.heap.size w').alloc (Nat.le_refl _) _) (Nat.le_refl _))) (a, b)).mono ?_
  rintro e w2 ⟨rfl, hb⟩
  have HB := Lib.hid (((Below.refl w'.heap.size w').alloc (Nat.le_refl _) _).trans (hb.mono (by rw [size_alloc]; omega)))
  clear hb hG' hGA
  go_wp2
  go_ret
  exact ⟨rfl, HB.out⟩

theorem locOk_waits (d : DevD) (ws : List WrD) (l : Int × Int) : locOk { d with waits := ws } l ↔ locOk d l := Iff.rfl

/-- Those for sectors of which it is asked wait no more. -/
def forgetD (d : DevD) (R : Int × Int → Bool) : DevD := { d with waits := keepL (fun x => R x.1) d.waits }

set_option maxRecDepth 100000 in
theorem forget_any (f : FuncId) (C : Nat) (R : Int × Int → Bool) (p : DevP) (d : DevD) (w : World) (h : DevAt w p d) (hlen : d.waits.length ≤ 100000) (hf : ∀ G w1, Chg [] w w1 → w1.cell? ⟨G, 0, none⟩ = some (.func (.func f) #[] #[.pointer (some ⟨C, 0, none⟩)]) → G < w1.heap.size → G ∉ p.fp → DelAt G (fun x => R x.1) p.wv.ownBlock.toList w1) :
    Calls Try.prog 36 #[.pointer (some ⟨p.b, 0, none⟩), .func (.func f) #[] #[.pointer (some ⟨C, 0, none⟩)]] w fun e w' => e = .returned (.tuple #[]) ∧ DevTo p (forgetD d R) w w' := by
  have hbx := (Below.refl w.heap.size w).alloc (Nat.le_refl _) (.cells #[.func (.func f) #[] #[.pointer (some ⟨C, 0, none⟩)]] 72 (0, 0))
  have BX := Lib.hid (Box.new w 72 #[.func (.func f) #[] #[.pointer (some ⟨C, 0, none⟩)]])
  have HX := Lib.hid (h.chg (Chg.of (S := []) hbx (Nat.le_refl _)) (fun _ _ hm => by cases hm))
  have HC : Hid (Chg [] w (w.alloc (.cells #[.func (.func f) #[] #[.pointer (some ⟨C, 0, none⟩)]] 72 (0, 0)))) := Chg.of hbx (Nat.le_refl _)
  have HP := Lib.hid h.lt
  have HL := Lib.hid hlen
  have HF := Lib.hid hf
  have c6 : w.cell? ⟨p.b, 6, none⟩ = some p.wv := h.box.cell 6 _ rfl
  have c6A : ∀ o : Obj, (w.alloc o).cell? ⟨p.b, 6, none⟩ = some p.wv := fun o => (h.box.alloc o).cell 6 _ rfl
  clear h hbx hlen hf
  go_enter Try.func36, Try.ntmps36
  go_wp2_with fail
  have hD := HF.out w.heap.size _ HC.out (BX.out.cell 0 _ rfl) (by rw [size_alloc]; omega) (fun hm => by have := HP.out _ hm; omega)
  refine (delete_wrs w.heap.size (fun x => R x.1) p.wv d.waits _ HX.out.wt hD HL.out).mono ?_
  rintro e w2 ⟨v', rfl, hw, hv, hc⟩
  have hb2 := HX.out.box.of (hc.block p.b HX.out.box.lt (fun hm => (HX.out.ne.2.2.2.2.2.2.2.2.2.2 p.b (by simpa using hm)).1 rfl))
  have d6 : w2.cell? ⟨p.b, 6, none⟩ = some p.wv := hb2.cell 6 _ rfl
  have f6 : w2.frozen? ⟨p.b, 6, none⟩ = false := hb2.free 6
  have hN := HX.out.newWaits hc hw (fun k hk => .inl (by rw [← hv]; exact hk)) (fun x hx => HX.out.wok x (List.mem_filter.1 hx).1)
  have HN := Lib.hid (DevTo.ofChg HC.out (DevTo.mk hN.1 hN.2))
  obtain ⟨av, cv, rfl, _⟩ := Wrs.form hw
  clear hD hw hv hc hb2 hN c6 c6A
  go_wp2
  go_end0
  exact ⟨rfl, HN.out⟩

/-- Lose. -/
def blanks (l : List ByteArray) : List ByteArray := List.replicate l.length ⟨#[]⟩
def loseS (s : SideD) : SideD := ⟨blanks s.has, blanks s.tells, true⟩
def loseD (d : DevD) (dev : Int) : DevD :=
  if dev = 0 then forgetD { d with s0 := loseS d.s0 } (fun x => x.1 == 0) else if dev = 1 then forgetD { d with s1 := loseS d.s1 } (fun x => x.1 == 1) else d
def spoilD (d : DevD) (l : Int × Int) (s : ByteArray) : DevD :=
  if chkD d l s.size = 0 then setTell (setHas (forgetD d (fun x => x.1 == l.1 && x.2 == l.2)) l s) l s else d
end Go.Proofs.Ytflobdhhjfpcdaa
