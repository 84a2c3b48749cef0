/-
  Contracts of package dev: end.
-/
import Derived.Test.YtopinlnjdgedeaaDoorMg6
import Derived.Laws.CopyRow
namespace Go.Proofs.YtopinlnjdgedeaaDoor
open Go.RowKit Go.ChangeShapes Go.WideShapes Go.ChangeAt

theorem sizeStr : (Tryd.prog.info? 9).map (·.size) = some 1 := by kernel_rfl
/-- 'copy(dst, src)' of two rows of strings that are as long. -/
theorem wp_copy_strs {ops : Array Oper} {rest : List Oper} {o : Oper} {a : Act} {Q : Exit → Act → World → Prop} (W : World) (hgd : o.guard = none) (x y : Operand)
    (ho : o.op = .call { callee := .builtin .copy, args := #[x, y], argTypes := #[52, 52] })
    (g cg : Nat) (l : List ByteArray) (g2 cg2 : Nat) (l2 : List ByteArray) (hx : a.eval x = .slice (some ⟨g, 0, none⟩) l.length cg) (hy : a.eval y = .slice (some ⟨g2, 0, none⟩) l2.length cg2)
    (h1 : Strs W g cg l) (h2 : Strs W g2 cg2 l2) (hl : l.length = l2.length)
    (h : ∀ w', Strs w' g cg l2 → Chg [g] W w' → wpList Tryd.prog ops Q rest (a.put o.dst (goInt (l2.map Value.string).length)) w') : wpList Tryd.prog ops Q (o :: rest) a W := by
  have hst : ∃ w', (Builtin.copy_ #[52, 52] o.type #[.slice (some ⟨g, 0, none⟩) l.length cg, .slice (some ⟨g2, 0, none⟩) l2.length cg2]).run Tryd.prog W = .ok (goInt (l2.map Value.string).length) w' ∧ Strs w' g cg l2 ∧ Chg [g] W w' := by
    rcases h1.2 with ⟨h', _⟩ | ⟨g', cap', cur, h', hb, hg, hnc, hcm, hcs, htake⟩
    · simp at h'
    · simp only [Value.slice.injEq, Option.some.injEq, Addr.mk.injEq, and_true, true_and] at h'
      obtain ⟨rfl, rfl⟩ := h'
      have hr := run_copy_row (P := Tryd.prog) W 52 52 o.type 9 g 0 l.length cg ⟨g2, 0, none⟩ l2.length cg2 cur 9 (l2.map Value.string) Tryd.underlying52 sizeStr hg
        (by simp [hl]) (World.ownsRow.cells h2 (g := g2) rfl) (by simp; omega) (by intro v hv; simp only [List.mem_map] at hv; obtain ⟨s, _, rfl⟩ := hv; rfl)
      refine ⟨_, hr, ⟨by simp, .inr ⟨g, cg, _, rfl, hb, setRow_heap W g cur _ _ _ hg, by omega, hcm, ?_, ?_⟩⟩, ⟨rfl, rfl, rfl, by simp, fun k _ hk => setRow_other W g k _ (fun e => hk (by simp [e]))⟩⟩
      · simp; omega
      · simp
  obtain ⟨w', hr, hS, hC⟩ := hst
  refine wpList_plain hgd fun K hK => ?_
  unfold Oper.wp execOp
  simp only [ho, resolve, invoke, builtin, Sem.run_bind, Sem.run_pure, Result.andThen_ok, List.map_toArray, List.map_cons, List.map_nil, hx, hy, hr]
  exact hK _ _ (h w' hS hC)

theorem aggSide (w : World) : (isAgg 54).run Tryd.prog w = .ok true w := by kernel_rfl
theorem sizeSideR (w : World) : (sizeOf 54).run Tryd.prog w = .ok 3 w := by kernel_rfl
theorem index_side0 (w : World) (x0 x1 x2 x3 x4 x5 : Value) : (Instr.index 56 (.agg #[x0, x1, x2, x3, x4, x5]) (.int .i64 0)).run Tryd.prog w = .ok (.agg #[x0, x1, x2]) w := by
  simp [Instr.index, run_underlying Tryd.underlying56, asIntOf, part, Sem.run_bind, Result.andThen]
theorem index_side1 (w : World) (x0 x1 x2 x3 x4 x5 : Value) : (Instr.index 56 (.agg #[x0, x1, x2, x3, x4, x5]) (.int .i64 1)).run Tryd.prog w = .ok (.agg #[x3, x4, x5]) w := by
  simp [Instr.index, run_underlying Tryd.underlying56, asIntOf, part, Sem.run_bind, Result.andThen]

def foldHas (d : DevD) (l : List WrD) : DevD := l.foldl (fun d x => setHas d x.1 x.2) d
def endT (d : DevD) (k : Nat) : DevD := ⟨if 1 ≤ k then { d.s0 with tells := d.s0.has } else d.s0, if 2 ≤ k then { d.s1 with tells := d.s1.has } else d.s1, d.waits⟩
/-- What end leaves. -/
def endD (d : DevD) (stay : List WrD) : DevD := endT { foldHas d stay with waits := [] } 2
theorem foldHas_snoc (d : DevD) (l : List WrD) (x : WrD) : foldHas d (l ++ [x]) = setHas (foldHas d l) x.1 x.2 := by simp [foldHas]
theorem size_foldHas (l : List WrD) (dev : Int) : ∀ d : DevD, devSize (foldHas d l) dev = devSize d dev := by
  induction l with
  | nil => intro d; rfl
  | cons x l ih =>
    intro d
    show devSize (foldHas (setHas d x.1 x.2) l) dev = _
    rw [ih, size_setHas]
set_option maxRecDepth 100000 in
set_option maxHeartbeats 1000000 in
theorem dend_any (p : DevP) (d : DevD) (sv : Value) (stay : List WrD) (w : World) (h : DevAt w p d) (hs : Wrs w sv stay) (hown : ∀ k, sv.ownBlock = some k → k ≠ p.h0 ∧ k ≠ p.h1) (hok : ∀ x ∈ stay, locOk d x.1) (hlen : stay.length ≤ 100000) :
    Calls Tryd.prog 31 #[.pointer (some ⟨p.b, 0, none⟩), sv, .func (.func 32) #[.pointer (some ⟨p.b, 0, none⟩)] #[]] w fun e w' => e = .returned (.tuple #[]) ∧ DevTo p (endD d stay) w w' := by
  obtain ⟨a, cap, rfl, hag⟩ := hs.form
  have H := Lib.hid h
  have HS := Lib.hid hs
  have HO := Lib.hid hown
  have HK := Lib.hid hok
  have HA := Lib.hid hag
  clear h hs hown hok hag
  go_enter Tryd.func31, Tryd.ntmps31
  go_wp2_with fail
  go_loopw [12] (fun i wr => ∃ k : Nat, k ≤ stay.length ∧ i = .int .i64 k ∧ Hid (DevAt wr p (foldHas d (stay.take k))) ∧ Hid (Chg [p.h0, p.h1] w wr)) (fun i _ => stay.length - (intOf i).toNat)
  case atStart => exact ⟨0, Nat.zero_le _, rfl, by simpa [foldHas] using H, Chg.refl _ _⟩
  case round =>
    obtain ⟨k, hk, rfl, HD, HC⟩ := hrel
    by_cases hlt : k < stay.length
    · obtain ⟨g, rfl⟩ := HA.out (by omega)
      have hW : Wrs wr (.slice (some ⟨g, 0, none⟩) stay.length cap) stay := HS.out.chg HC.out (fun j hj => by have := HO.out j hj; simp; exact this)
      obtain ⟨q0, q1, q2⟩ := hW.get k stay[k] (List.getElem?_eq_getElem hlt)
      have HX : Hid (stay.take (k + 1) = stay.take k ++ [stay[k]]) := List.take_succ_eq_append_getElem hlt
      have HLO : Hid (locOk (foldHas d (stay.take k)) stay[k].1) := by
        have := HK.out stay[k] (List.getElem_mem hlt)
        show locOk _ _
        unfold locOk at *
        rw [size_foldHas]
        exact this
      have hkk : (0 : Int) ≤ (k : Int) := by omega
      have hkl : (k : Int) < (stay.length : Int) := by omega
      generalize hxx : stay[k] = x at *
      clear hxx hW
      go_wp2_with fail
      refine (ddone_any p _ x _ (HD.out.chg (Chg.of (S := []) ((Below.refl _ _).alloc (Nat.le_refl _) _) (Nat.le_refl _)) (fun _ _ hm => by cases hm)) HLO.out).mono ?_
      rintro e w1 ⟨rfl, hd, hc⟩
      rw [← foldHas_snoc, ← HX.out] at hd
      have HD1 := Lib.hid hd
      have HC1 := Lib.hid (HC.out.trans ((Chg.of (S := [p.h0, p.h1]) ((Below.refl wr.heap.size wr).alloc (Nat.le_refl _) _) (Nat.le_refl _)).trans hc))
      clear hd hc q0 q1 q2 HS HO HD HC
      go_wp2
      go_roundw
      case rel => exact ⟨k + 1, by omega, by go_num, HD1, HC1⟩
      case measure => simp [intOf]; omega
    · have hkl : k = stay.length := by omega
      subst hkl
      rw [List.take_of_length_le (Nat.le_refl _)] at HD
      have c6 : wr.cell? ⟨p.b, 6, none⟩ = some p.wv := HD.out.box.cell 6 _ rfl
      have f6 : wr.frozen? ⟨p.b, 6, none⟩ = false := HD.out.box.free 6
      have hN := HD.out.newWaits (w1 := wr) (Chg.refl _ _) (v' := .slice none 0 0) (ws := []) (World.ownsRow_nil _ _ _ _) (fun k hk => by cases hk) (fun x hx => by cases hx)
      have HN := Lib.hid hN.1
      have HM := Lib.hid hN.2
      have HDD : Hid (endD d stay = endT { foldHas d stay with waits := [] } 2) := rfl
      have L0 : Hid ((foldHas d stay).s0.tells.length = (foldHas d stay).s0.has.length) := HN.out.l0
      have L1 : Hid ((foldHas d stay).s1.tells.length = (foldHas d stay).s1.has.length) := HN.out.l1
      clear hN hlt hk
      generalize foldHas d stay = F at *
      have c0 : wr.cell? ⟨p.b, 0, none⟩ = some (.slice (some ⟨p.h0, 0, none⟩) F.s0.has.length p.ch0) := HD.out.box.cell 0 _ rfl
      have c1 : wr.cell? ⟨p.b, 1, none⟩ = some (.slice (some ⟨p.t0, 0, none⟩) F.s0.tells.length p.ct0) := HD.out.box.cell 1 _ rfl
      have c2 : wr.cell? ⟨p.b, 2, none⟩ = some (.bool F.s0.lost) := HD.out.box.cell 2 _ rfl
      have c3 : wr.cell? ⟨p.b, 3, none⟩ = some (.slice (some ⟨p.h1, 0, none⟩) F.s1.has.length p.ch1) := HD.out.box.cell 3 _ rfl
      have c4 : wr.cell? ⟨p.b, 4, none⟩ = some (.slice (some ⟨p.t1, 0, none⟩) F.s1.tells.length p.ct1) := HD.out.box.cell 4 _ rfl
      have c5 : wr.cell? ⟨p.b, 5, none⟩ = some (.bool F.s1.lost) := HD.out.box.cell 5 _ rfl
      go_wp2_with fail
      clear c0 c1 c2 c3 c4 c5 c6 f6
      have HT := Lib.hid (HM.out.ofChg' (HC.out.mono (S' := p.fp) (fun k hk => by simp [DevP.fp] at hk ⊢; omega)))
      clear HM HC HD
      generalize hwx : World.setCell _ _ _ = wx at HN HT ⊢
      clear hwx
      generalize hpp : ({ p with wv := Value.slice none 0 0 } : DevP) = p2 at HN HT
      have e1 : p2.t0 = p.t0 := by rw [← hpp]
      have e2 : p2.t1 = p.t1 := by rw [← hpp]
      have e3 : p2.h0 = p.h0 := by rw [← hpp]
      have e4 : p2.h1 = p.h1 := by rw [← hpp]
      have e5 : p2.b = p.b := by rw [← hpp]
      have e6 : p2.ct0 = p.ct0 := by rw [← hpp]
      have e7 : p2.ct1 = p.ct1 := by rw [← hpp]
      have e8 : p2.ch0 = p.ch0 := by rw [← hpp]
      have e9 : p2.ch1 = p.ch1 := by rw [← hpp]
      have E := Lib.hid (And.intro e1 (And.intro e2 (And.intro e3 (And.intro e4 (And.intro e5 (And.intro e6 (And.intro e7 (And.intro e8 e9))))))))
      clear e1 e2 e3 e4 e5 e6 e7 e8 e9 hpp
      go_loopw [27] (fun i wr => ∃ k : Nat, k ≤ 2 ∧ i = .int .i64 k ∧ Hid (DevAt wr p2 (endT { F with waits := [] } k) ∧ Mv p p2 w wr)) (fun i _ => 2 - (intOf i).toNat)
      case atStart => exact ⟨0, by omega, rfl, by simpa [endT] using HN.out, HT.out⟩
      case round =>
        obtain ⟨k, hk, rfl, HH⟩ := hrel
        have hk3 : k = 0 ∨ k = 1 ∨ k = 2 := by omega
        rcases hk3 with rfl | rfl | rfl
        · obtain ⟨e1, e2, e3, e4, e5, e6, e7, e8, e9⟩ := E.out
          have T0 := Lib.hid (show Strs wr p.t0 p.ct0 F.s0.tells by have := HH.out.1.t0; rw [e1, e6] at this; exact this)
          have T1 := Lib.hid (show Strs wr p.h0 p.ch0 F.s0.has by have := HH.out.1.h0; rw [e3, e8] at this; exact this)
          have hix := fun W => index_side0 W (.slice (some ⟨p.h0, 0, none⟩) F.s0.has.length p.ch0) (.slice (some ⟨p.t0, 0, none⟩) F.s0.tells.length p.ct0) (.bool F.s0.lost) (.slice (some ⟨p.h1, 0, none⟩) F.s1.has.length p.ch1) (.slice (some ⟨p.t1, 0, none⟩) F.s1.tells.length p.ct1) (.bool F.s1.lost)
          clear e1 e2 e3 e4 e5 e6 e7 e8 e9
          have CA : ∀ o : Obj, Hid (Chg [] wr (wr.alloc o)) := fun o => Chg.of ((Below.refl _ _).alloc (Nat.le_refl _) o) (Nat.le_refl _)
          go_wp2_with (with_reducible refine wp_copy_strs _ rfl (.tmp 31) (.tmp 33) rfl p.t0 p.ct0 F.s0.tells p.h0 p.ch0 F.s0.has rfl rfl ?c1 ?c2 ?c3 ?c4)
          case c1 => exact T0.out.chg (CA _).out (fun h => by cases h)
          case c2 => exact T1.out.chg (CA _).out (fun h => by cases h)
          case c3 => exact L0.out
          intro w5 hS hC
          have HR : Hid (DevAt w5 p2 (endT { F with waits := [] } 1) ∧ Mv p p2 w w5) := by
            have hD := (HH.out.1.chg (CA _).out (fun _ _ h => by cases h)).tells0 (by rw [E.out.1, E.out.2.2.2.2.2.1]; exact hS) (by simpa [endT] using L0.out.symm) (by rw [E.out.1]; exact hC)
            refine ⟨by simpa [endT] using hD, HH.out.2.b, HH.out.2.chg.trans (((CA _).out.mono (fun _ h => by cases h)).trans (hC.mono (fun k hk => ?_))), HH.out.2.fp⟩
            rw [List.mem_singleton] at hk
            subst hk
            simp [DevP.fp]
          clear hS hC CA hix T0 T1
          go_wp2
          go_roundw
          case rel => exact ⟨1, by omega, rfl, HR⟩
          case measure => simp [intOf]
        · obtain ⟨e1, e2, e3, e4, e5, e6, e7, e8, e9⟩ := E.out
          have T0 := Lib.hid (show Strs wr p.t1 p.ct1 F.s1.tells by have := HH.out.1.t1; rw [e2, e7] at this; exact this)
          have T1 := Lib.hid (show Strs wr p.h1 p.ch1 F.s1.has by have := HH.out.1.h1; rw [e4, e9] at this; exact this)
          have hix := fun W => index_side1 W (.slice (some ⟨p.h0, 0, none⟩) F.s0.has.length p.ch0) (.slice (some ⟨p.t0, 0, none⟩) F.s0.tells.length p.ct0) (.bool F.s0.lost) (.slice (some ⟨p.h1, 0, none⟩) F.s1.has.length p.ch1) (.slice (some ⟨p.t1, 0, none⟩) F.s1.tells.length p.ct1) (.bool F.s1.lost)
          clear e1 e2 e3 e4 e5 e6 e7 e8 e9
          have CA : ∀ o : Obj, Hid (Chg [] wr (wr.alloc o)) := fun o => Chg.of ((Below.refl _ _).alloc (Nat.le_refl _) o) (Nat.le_refl _)
          go_wp2_with (with_reducible refine wp_copy_strs _ rfl (.tmp 31) (.tmp 33) rfl p.t1 p.ct1 F.s1.tells p.h1 p.ch1 F.s1.has rfl rfl ?d1 ?d2 ?d3 ?d4)
          case d1 => exact T0.out.chg (CA _).out (fun h => by cases h)
          case d2 => exact T1.out.chg (CA _).out (fun h => by cases h)
          case d3 => exact L1.out
          intro w5 hS hC
          have HR : Hid (DevAt w5 p2 (endT { F with waits := [] } 2) ∧ Mv p p2 w w5) := by
            have hD := (HH.out.1.chg (CA _).out (fun _ _ h => by cases h)).tells1 (by rw [E.out.2.1, E.out.2.2.2.2.2.2.1]; exact hS) (by simpa [endT] using L1.out.symm) (by rw [E.out.2.1]; exact hC)
            refine ⟨by simpa [endT] using hD, HH.out.2.b, HH.out.2.chg.trans (((CA _).out.mono (fun _ h => by cases h)).trans (hC.mono (fun k hk => ?_))), HH.out.2.fp⟩
            rw [List.mem_singleton] at hk
            subst hk
            simp [DevP.fp]
          clear hS hC CA hix T0 T1
          go_wp2
          go_roundw
          case rel => exact ⟨2, by omega, rfl, HR⟩
          case measure => simp [intOf]
        · go_wp2
          go_end0
          rw [HDD.out]
          exact ⟨rfl, DevTo.mk HH.out.1 HH.out.2⟩
end Go.Proofs.YtopinlnjdgedeaaDoor
