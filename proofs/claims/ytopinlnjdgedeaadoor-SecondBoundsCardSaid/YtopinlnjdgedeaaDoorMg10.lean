/-
  Texts put together: DevForgetS, DevSpoil.
-/
import Derived.Test.YtopinlnjdgedeaaDoorDevForget
import Derived.Test.YtopinlnjdgedeaaDoorMg4
import Derived.StillTailTactics
namespace Go.Proofs.YtopinlnjdgedeaaDoor
open Go.RowKit Go.ChangeShapes Go.WideShapes Go.ChangeAt

/-- The model's '==' at a Loc. -/
theorem eqLocD (x1 x2 y1 y2 : Int) (w : World) : (Op.equalIn 10000 48 (.agg #[.int .i64 x1, .int .i64 x2]) (.agg #[.int .i64 y1, .int .i64 y2])).run Tryd.prog w = .ok (x1 == y1 && x2 == y2) w := by
  have u3 := Tryd.underlying3
  have a3 := Tryd.isAgg3
  have z3 := Tryd.sizeOf3
  have hS : Tryd.prog.underlying 48 = some (.struct (Tryd.prog.fieldsOf 48)) := by kernel_rfl
  have hp : Tryd.prog.stoodInHeld 48 = false := by kernel_rfl
  rw [show (10000 : Nat) = 9999 + 1 from rfl, run_equalIn_agg w 9999 48 _ _ hS hp]
  simp only [Program.fieldsOf, Tryd.underlying48]
  go_simp
  by_cases h1 : x1 = y1 <;> by_cases h2 : x2 = y2 <;> simp [h1, h2]

theorem spoil1_any (x l : Int × Int) (g : Nat) (w : World) (hg0 : w.cell? ⟨g, 0, none⟩ = some (.int .i64 l.1)) (hg1 : w.cell? ⟨g, 1, none⟩ = some (.int .i64 l.2)) (hg2 : g < w.heap.size) :
    Calls Tryd.prog 37 #[locV x, .pointer (some ⟨g, 0, none⟩)] w fun e w' => e = .returned (.bool (x.1 == l.1 && x.2 == l.2)) ∧ Below w.heap.size w w' := by
  obtain ⟨x1, x2⟩ := x
  obtain ⟨y1, y2⟩ := l
  unfold locV
  simp only at hg0 hg1
  have hq : ∀ w, (Op.equalIn 10000 48 (.agg #[.int .i64 x1, .int .i64 x2]) (.agg #[.int .i64 y1, .int .i64 y2])).run Tryd.prog w = .ok (x1 == y1 && x2 == y2) w := fun w => eqLocD x1 x2 y1 y2 w
  generalize (x1 == y1 && x2 == y2) = bb at *
  go_enter Tryd.func37, Tryd.ntmps37
  go_wp2
  go_ret
  exact ⟨rfl, (Below.refl _ _).alloc (Nat.le_refl _) _⟩

/-- What a closure of Locs answers, as long as nothing but blocks of S has changed. -/
def OfAt (f : FuncId) (C : Nat) (R : Int × Int → Bool) (S : List Nat) (w : World) : Prop :=
  ∀ w', Chg S w w' → ∀ x : Int × Int, Calls Tryd.prog f #[locV x, .pointer (some ⟨C, 0, none⟩)] w' fun e w'' => e = .returned (.bool (R x)) ∧ Below w'.heap.size w' w''

theorem forget1_spoil (C : Nat) (R : Int × Int → Bool) (S : List Nat) (G : Nat) (w : World) (hf : OfAt 37 C R S w) (hG : w.cell? ⟨G, 0, none⟩ = some (.func (.func 37) #[] #[.pointer (some ⟨C, 0, none⟩)])) (hg2 : G < w.heap.size) (hGS : G ∉ S) : DelAt G (fun x => R x.1) S w := by
  intro w' hc x
  obtain ⟨⟨a, b⟩, s⟩ := x
  have hG' : w'.cell? ⟨G, 0, none⟩ = some (.func (.func 37) #[] #[.pointer (some ⟨C, 0, none⟩)]) := by rw [World.cell?_of_block (hc.block G hg2 hGS)]; exact hG
  have HF := Lib.hid hf
  have HC := Lib.hid hc
  have hlt := Nat.lt_of_lt_of_le hg2 hc.size
  have hGA : ∀ o : Obj, (w'.alloc o).cell? ⟨G, 0, none⟩ = some (.func (.func 37) #[] #[.pointer (some ⟨C, 0, none⟩)]) := fun o => by
    rw [((Below.refl w'.heap.size w').alloc (Nat.le_refl _) o).cell (p := ⟨G, 0, none⟩) hlt]; exact hG'
  clear hf hc hG
  go_enter Tryd.func47, Tryd.ntmps47
  go_wp2_with fail
  refine (HF.out _ (HC.out.trans (Chg.of ((Below.refl w'.heap.size w').alloc (Nat.le_refl _) _) (Nat.le_refl _))) (a, b)).mono ?_
  rintro e w2 ⟨rfl, hb⟩
  have HB := Lib.hid (((Below.refl w'.heap.size w').alloc (Nat.le_refl _) _).trans (hb.mono (by rw [size_alloc]; omega)))
  clear hb hG' hGA
  go_wp2
  go_ret
  exact ⟨rfl, HB.out⟩

theorem locOk_waits (d : DevD) (ws : List WrD) (l : Int × Int) : locOk { d with waits := ws } l ↔ locOk d l := Iff.rfl

/-- Those for sectors of which it is asked wait no more. -/
def forgetD (d : DevD) (R : Int × Int → Bool) : DevD := { d with waits := keepL (fun x => R x.1) d.waits }

set_option maxRecDepth 100000 in
theorem forget_any (f : FuncId) (C : Nat) (R : Int × Int → Bool) (p : DevP) (d : DevD) (w : World) (h : DevAt w p d) (hlen : d.waits.length ≤ 100000) (hf : ∀ G w1, Chg [] w w1 → w1.cell? ⟨G, 0, none⟩ = some (.func (.func f) #[] #[.pointer (some ⟨C, 0, none⟩)]) → G < w1.heap.size → G ∉ p.fp → DelAt G (fun x => R x.1) p.wv.ownBlock.toList w1) :
    Calls Tryd.prog 36 #[.pointer (some ⟨p.b, 0, none⟩), .func (.func f) #[] #[.pointer (some ⟨C, 0, none⟩)]] w fun e w' => e = .returned (.tuple #[]) ∧ DevTo p (forgetD d R) w w' := by
  have hbx := (Below.refl w.heap.size w).alloc (Nat.le_refl _) (.cells #[.func (.func f) #[] #[.pointer (some ⟨C, 0, none⟩)]] 74 (0, 0))
  have BX := Lib.hid (Box.new w 74 #[.func (.func f) #[] #[.pointer (some ⟨C, 0, none⟩)]])
  have HX := Lib.hid (h.chg (Chg.of (S := []) hbx (Nat.le_refl _)) (fun _ _ hm => by cases hm))
  have HC : Hid (Chg [] w (w.alloc (.cells #[.func (.func f) #[] #[.pointer (some ⟨C, 0, none⟩)]] 74 (0, 0)))) := Chg.of hbx (Nat.le_refl _)
  have HP := Lib.hid h.lt
  have HL := Lib.hid hlen
  have HF := Lib.hid hf
  have c6 : w.cell? ⟨p.b, 6, none⟩ = some p.wv := h.box.cell 6 _ rfl
  have c6A : ∀ o : Obj, (w.alloc o).cell? ⟨p.b, 6, none⟩ = some p.wv := fun o => (h.box.alloc o).cell 6 _ rfl
  clear h hbx hlen hf
  go_enter Tryd.func36, Tryd.ntmps36
  go_wp2_with fail
  have hD := HF.out w.heap.size _ HC.out (BX.out.cell 0 _ rfl) (by rw [size_alloc]; omega) (fun hm => by have := HP.out _ hm; omega)
  refine (delete_wrs w.heap.size (fun x => R x.1) p.wv d.waits _ HX.out.wt hD HL.out).mono ?_
  rintro e w2 ⟨v', rfl, hw, hv, hc⟩
  have hb2 := HX.out.box.of (hc.block p.b HX.out.box.lt (fun hm => (HX.out.ne.2.2.2.2.2.2.2.2.2.2 p.b (by simpa using hm)).1 rfl))
  have d6 : w2.cell? ⟨p.b, 6, none⟩ = some p.wv := hb2.cell 6 _ rfl
  have f6 : w2.frozen? ⟨p.b, 6, none⟩ = false := hb2.free 6
  have hN := HX.out.newWaits hc hw (fun k hk => .inl (by rw [← hv]; exact hk)) (fun x hx => HX.out.wok x (List.mem_filter.1 hx).1)
  have HN := Lib.hid (DevTo.ofChg HC.out (DevTo.mk hN.1 hN.2))
  obtain ⟨av, cv, rfl, _⟩ := Wrs.form hw
  clear hD hw hv hc hb2 hN c6 c6A
  go_wp2
  go_end0
  exact ⟨rfl, HN.out⟩

/-- Lose. -/
def blanks (l : List ByteArray) : List ByteArray := List.replicate l.length ⟨#[]⟩
def loseS (s : SideD) : SideD := ⟨blanks s.has, blanks s.tells, true⟩
def loseD (d : DevD) (dev : Int) : DevD :=
  if dev = 0 then forgetD { d with s0 := loseS d.s0 } (fun x => x.1 == 0) else if dev = 1 then forgetD { d with s1 := loseS d.s1 } (fun x => x.1 == 1) else d
def spoilD (d : DevD) (l : Int × Int) (s : ByteArray) : DevD :=
  if chkD d l s.size = 0 then setTell (setHas (forgetD d (fun x => x.1 == l.1 && x.2 == l.2)) l s) l s else d
end Go.Proofs.YtopinlnjdgedeaaDoor

namespace Go.Proofs.YtopinlnjdgedeaaDoor
open Go.RowKit Go.ChangeShapes Go.WideShapes Go.ChangeAt

theorem spoil_nil (l : Int × Int) (s : ByteArray) (w : World) : Calls Tryd.prog 19 #[.pointer none, locV l, .string s] w fun e w' => e = .returned (.int .i64 1) ∧ Below w.heap.size w w' := by
  obtain ⟨a, b⟩ := l
  unfold locV
  have hx := Lib.hid ((Below.refl w.heap.size w).alloc (Nat.le_refl _) (.cells #[.int .i64 a, .int .i64 b] 48 (0, 0)))
  have k0 : (w.alloc (.cells #[.int .i64 a, .int .i64 b] 48 (0, 0))).cell? ⟨w.heap.size, 0, none⟩ = some (.int .i64 a) := boxed0 _ _ _ _ 0 _ rfl
  have k1 : (w.alloc (.cells #[.int .i64 a, .int .i64 b] 48 (0, 0))).cell? ⟨w.heap.size, 1, none⟩ = some (.int .i64 b) := boxed0 _ _ _ _ 1 _ rfl
  go_enter Tryd.func19, Tryd.ntmps19
  go_wp2_with fail
  generalize World.alloc _ _ = wx at *
  refine (dcheck_nil (a, b) s wx).mono ?_
  rintro e w1 ⟨rfl, hb⟩
  have HB := Lib.hid (hx.out.trans (hb.mono hx.out.size))
  clear hb
  go_wp2
  go_ret
  exact ⟨rfl, HB.out⟩

set_option maxRecDepth 100000 in
set_option maxHeartbeats 1000000 in
theorem spoil_any (p : DevP) (d : DevD) (l : Int × Int) (s : ByteArray) (w : World) (h : DevAt w p d) (hlen : d.waits.length ≤ 100000) : Calls Tryd.prog 19 #[.pointer (some ⟨p.b, 0, none⟩), locV l, .string s] w fun e w' => e = .returned (.int .i64 (chkD d l s.size)) ∧ DevTo p (spoilD d l s) w w' := by
  obtain ⟨a, b⟩ := l
  unfold locV
  have hx := Lib.hid ((Below.refl w.heap.size w).alloc (Nat.le_refl _) (.cells #[.int .i64 a, .int .i64 b] 48 (0, 0)))
  have BX := Lib.hid (Box.new w 48 #[.int .i64 a, .int .i64 b])
  have HX := Lib.hid (h.chg (Chg.of (S := []) hx.out (Nat.le_refl _)) (fun _ _ hm => by cases hm))
  have k0 : (w.alloc (.cells #[.int .i64 a, .int .i64 b] 48 (0, 0))).cell? ⟨w.heap.size, 0, none⟩ = some (.int .i64 a) := boxed0 _ _ _ _ 0 _ rfl
  have k1 : (w.alloc (.cells #[.int .i64 a, .int .i64 b] 48 (0, 0))).cell? ⟨w.heap.size, 1, none⟩ = some (.int .i64 b) := boxed0 _ _ _ _ 1 _ rfl
  have HL := Lib.hid hlen
  have HP := Lib.hid h.lt
  clear h hlen
  have HW : Hid (spoilD d (a, b) s = if chkD d (a, b) s.size = 0 then setTell (setHas (forgetD d (fun x => x.1 == a && x.2 == b)) (a, b) s) (a, b) s else d) := rfl
  go_enter Tryd.func19, Tryd.ntmps19
  go_wp2_with fail
  generalize World.alloc _ _ = wx at *
  refine (dcheck_any p d (a, b) s wx HX.out).mono ?_
  rintro e w1 ⟨rfl, hb⟩
  have HB := Lib.hid (hx.out.trans (hb.mono hx.out.size))
  have H1 := Lib.hid (HX.out.chg (Chg.of (S := []) hb (Nat.le_refl _)) (fun _ _ hm => by cases hm))
  have B1 := Lib.hid (BX.out.keep hb BX.out.lt)
  clear hb HX BX k0 k1 hx
  by_cases hc : chkD d (a, b) s.size = 0
  · obtain ⟨ha, h0, h1, _, _⟩ := chkD_ok hc
    simp only at ha h0 h1
    have HC0 := Lib.hid hc
    rw [hc]
    rw [if_pos hc] at HW
    clear hc
    obtain ⟨k, rfl⟩ : ∃ k : Nat, b = k := ⟨b.toNat, by omega⟩
    have HA := Lib.hid ha
    have HI := Lib.hid h1
    clear ha h0 h1
    have hns : w.heap.size ∉ p.fp := fun hm => by have := HP.out _ hm; omega
    have HNS := Lib.hid hns
    have HOF : Hid (∀ G w3, Chg [] w1 w3 → w3.cell? ⟨G, 0, none⟩ = some (.func (.func 37) #[] #[.pointer (some ⟨w.heap.size, 0, none⟩)]) → G < w3.heap.size → G ∉ p.fp → DelAt G (fun x => (x.1.1 == a && x.1.2 == (k : Int))) p.wv.ownBlock.toList w3) := by
      intro G w3 hc3 hG hG2 hG3
      have hs : ∀ j ∈ p.wv.ownBlock.toList, j ∈ p.fp := fun j hj => by simp only [DevP.fp]; exact List.mem_append_right _ hj
      refine forget1_spoil w.heap.size (fun x => x.1 == a && x.2 == (k : Int)) _ G w3 (fun w4 hc4 x => ?_) hG hG2 (fun hm => hG3 (hs _ hm))
      have hb4 := (B1.out.of (hc3.block _ B1.out.lt (by simp))).of (hc4.block _ (Nat.lt_of_lt_of_le B1.out.lt hc3.size) (fun hm => HNS.out (hs _ hm)))
      exact spoil1_any x (a, (k : Int)) w.heap.size w4 (hb4.cell 0 _ rfl) (hb4.cell 1 _ rfl) hb4.lt
    clear hns
    go_wp2_with fail
    refine (forget_any 37 w.heap.size (fun x => x.1 == a && x.2 == (k : Int)) p d _ H1.out HL.out HOF.out).mono ?_
    rintro e w2 ⟨rfl, p2, hd2, hm2⟩
    have HD2 := Lib.hid hd2
    have HM2 := Lib.hid hm2
    have HB2 := Lib.hid (B1.out.of (hm2.chg.block _ B1.out.lt HNS.out))
    have HBT := Lib.hid (HB2.out)
    have hS := hd2.setHas (a, (k : Int)) HA.out s
    have hM := hm2.trans (hd2.mvHas a k (.string s))
    have hnb : ∀ dev, w.heap.size ≠ p2.hb dev := fun dev e => by
      have h3 : p2.hb dev ∈ p2.fp := by unfold DevP.hb; split <;> simp [DevP.fp]
      rcases hm2.fp _ h3 with h4 | h4
      · exact HNS.out (by rw [e]; exact h4)
      · have := B1.out.lt; omega
    have HNB := Lib.hid hnb
    have HS := Lib.hid hS
    have HM := Lib.hid hM
    have q0 : w2.cell? ⟨w.heap.size, 0, none⟩ = some (.int .i64 a) := HB2.out.cell 0 _ rfl
    have q1 : w2.cell? ⟨w.heap.size, 1, none⟩ = some (.int .i64 k) := HB2.out.cell 1 _ rfl
    have eb := hm2.b
    have HEB := Lib.hid eb
    have HSZ : Hid ((k : Int) < devSize (forgetD d (fun x => x.1 == a && x.2 == (k : Int))) a) := HI.out
    generalize hFF : forgetD d (fun x => x.1 == a && x.2 == (k : Int)) = F at *
    have HFF := Lib.hid hFF
    clear hd2 hm2 hS hM hnb hFF H1 HI HOF
    rcases HA.out with rfl | rfl
    · have hk : k < F.s0.has.length := by have := HSZ.out; have : devSize F 0 = F.s0.has.length := rfl; omega
      have hk1 : (0 : Int) ≤ (k : Int) := by omega
      have hk2 : (k : Int) < (F.s0.has.length : Int) := by omega
      have c0 : w2.cell? ⟨p.b, 0, none⟩ = some (.slice (some ⟨p2.h0, 0, none⟩) F.s0.has.length p2.ch0) := by rw [← eb]; exact HD2.out.box.cell 0 _ rfl
      have ce : w2.cell? ⟨p2.h0, k, none⟩ = some (.string (F.s0.has[k])) := HD2.out.h0.get k _ (List.getElem?_eq_getElem hk)
      have cf : w2.frozen? ⟨p2.h0, k, none⟩ = false := HD2.out.h0.free k
      clear eb
      go_wp2_with fail
      go_still_tail 12, (by kernel_rfl)
      go_wp2_with fail
      have hB3 : Box (w2.setCell ⟨p2.h0, k, none⟩ (.string s)).drew w.heap.size 48 #[.int .i64 0, .int .i64 k] := HB2.out.of ((chg_set w2 p2.h0 k (.string s)).block _ HB2.out.lt (by have h9 := HNB.out 0; rw [show p2.hb 0 = p2.h0 from rfl] at h9; simpa using h9))
      have hD3 : DevAt (w2.setCell ⟨p2.h0, k, none⟩ (.string s)).drew p2 (setHas F (0, (k : Int)) s) := HS.out.drewN 1
      have hM3 : Mv p p2 w1 (w2.setCell ⟨p2.h0, k, none⟩ (.string s)).drew := ⟨HM.out.b, HM.out.chg.drew, HM.out.fp⟩
      generalize (w2.setCell ⟨p2.h0, k, none⟩ (.string s)).drew = w3 at *
      have HS4 := Lib.hid (hD3.setTell (0, (k : Int)) (.inl rfl) s)
      have HM4 := Lib.hid (hM3.trans (hD3.mvTell 0 k (.string s)))
      have hlt : (setHas F (0, (k : Int)) s).s0.tells = F.s0.tells := rfl
      have hkt : k < F.s0.tells.length := by rw [HD2.out.l0]; exact hk
      have hkt2 : (k : Int) < (F.s0.tells.length : Int) := by omega
      have r0 : w3.cell? ⟨w.heap.size, 0, none⟩ = some (.int .i64 0) := hB3.cell 0 _ rfl
      have r1 : w3.cell? ⟨w.heap.size, 1, none⟩ = some (.int .i64 k) := hB3.cell 1 _ rfl
      have d0 : w3.cell? ⟨p.b, 1, none⟩ = some (.slice (some ⟨p2.t0, 0, none⟩) F.s0.tells.length p2.ct0) := by rw [← HEB.out]; exact hD3.box.cell 1 _ rfl
      have de : w3.cell? ⟨p2.t0, k, none⟩ = some (.string (F.s0.tells[k])) := hD3.t0.get k _ (List.getElem?_eq_getElem hkt)
      have df : w3.frozen? ⟨p2.t0, k, none⟩ = false := hD3.t0.free k
      clear c0 ce cf hk2 q0 q1 hB3 hD3 hM3 hlt
      go_wp2_with fail
      go_still_tail 12, (by kernel_rfl)
      go_wp2
      go_ret
      refine ⟨ret_int HC0.out.symm, ?_⟩
      rw [HW.out]
      exact (DevTo.ofChg (Chg.of HB.out (Nat.le_refl _)) (DevTo.mk HS4.out HM4.out)).drew
    · have hk : k < F.s1.has.length := by have := HSZ.out; have : devSize F 1 = F.s1.has.length := rfl; omega
      have hk1 : (0 : Int) ≤ (k : Int) := by omega
      have hk2 : (k : Int) < (F.s1.has.length : Int) := by omega
      have c0 : w2.cell? ⟨p.b, 3, none⟩ = some (.slice (some ⟨p2.h1, 0, none⟩) F.s1.has.length p2.ch1) := by rw [← eb]; exact HD2.out.box.cell 3 _ rfl
      have ce : w2.cell? ⟨p2.h1, k, none⟩ = some (.string (F.s1.has[k])) := HD2.out.h1.get k _ (List.getElem?_eq_getElem hk)
      have cf : w2.frozen? ⟨p2.h1, k, none⟩ = false := HD2.out.h1.free k
      clear eb
      go_wp2_with fail
      go_still_tail 12, (by kernel_rfl)
      go_wp2_with fail
      have hB3 : Box (w2.setCell ⟨p2.h1, k, none⟩ (.string s)).drew w.heap.size 48 #[.int .i64 1, .int .i64 k] := HB2.out.of ((chg_set w2 p2.h1 k (.string s)).block _ HB2.out.lt (by have h9 := HNB.out 1; rw [show p2.hb 1 = p2.h1 from rfl] at h9; simpa using h9))
      have hD3 : DevAt (w2.setCell ⟨p2.h1, k, none⟩ (.string s)).drew p2 (setHas F (1, (k : Int)) s) := HS.out.drewN 1
      have hM3 : Mv p p2 w1 (w2.setCell ⟨p2.h1, k, none⟩ (.string s)).drew := ⟨HM.out.b, HM.out.chg.drew, HM.out.fp⟩
      generalize (w2.setCell ⟨p2.h1, k, none⟩ (.string s)).drew = w3 at *
      have HS4 := Lib.hid (hD3.setTell (1, (k : Int)) (.inr rfl) s)
      have HM4 := Lib.hid (hM3.trans (hD3.mvTell 1 k (.string s)))
      have hlt : (setHas F (1, (k : Int)) s).s1.tells = F.s1.tells := rfl
      have hkt : k < F.s1.tells.length := by rw [HD2.out.l1]; exact hk
      have hkt2 : (k : Int) < (F.s1.tells.length : Int) := by omega
      have r0 : w3.cell? ⟨w.heap.size, 0, none⟩ = some (.int .i64 1) := hB3.cell 0 _ rfl
      have r1 : w3.cell? ⟨w.heap.size, 1, none⟩ = some (.int .i64 k) := hB3.cell 1 _ rfl
      have d0 : w3.cell? ⟨p.b, 4, none⟩ = some (.slice (some ⟨p2.t1, 0, none⟩) F.s1.tells.length p2.ct1) := by rw [← HEB.out]; exact hD3.box.cell 4 _ rfl
      have de : w3.cell? ⟨p2.t1, k, none⟩ = some (.string (F.s1.tells[k])) := hD3.t1.get k _ (List.getElem?_eq_getElem hkt)
      have df : w3.frozen? ⟨p2.t1, k, none⟩ = false := hD3.t1.free k
      clear c0 ce cf hk2 q0 q1 hB3 hD3 hM3 hlt
      go_wp2_with fail
      go_still_tail 12, (by kernel_rfl)
      go_wp2
      go_ret
      refine ⟨ret_int HC0.out.symm, ?_⟩
      rw [HW.out]
      exact (DevTo.ofChg (Chg.of HB.out (Nat.le_refl _)) (DevTo.mk HS4.out HM4.out)).drew
  · have hq : (chkD d (a, b) s.size != 0) = true := by simpa using hc
    rw [if_neg hc] at HW
    clear hc
    go_wp2
    go_ret
    refine ⟨rfl, ?_⟩
    rw [HW.out]
    exact ⟨p, H1.out, (Mv.refl p w1).ofChg (Chg.of HB.out (Nat.le_refl _))⟩
end Go.Proofs.YtopinlnjdgedeaaDoor
