/-
  Texts put together: CgRows, SeF, SeG.
-/
import Derived.Test.YtphhnhldbajaoaaGreatDoorMg20
import Derived.Test.YtphhnhldbajaoaaGreatDoorMg0
import Derived.Deep.RegionLaw
import Derived.Maps.AppendAt
import Derived.Deep.Upon
import Derived.Test.YtphhnhldbajaoaaGreatDoorSeE
import Derived.OwnWalkIn
import Derived.Deep.DeepMust
import Derived.Test.YtphhnhldbajaoaaGreatDoorMg10
import Derived.Test.YtphhnhldbajaoaaGreatDoorMg15
namespace Go.Proofs.YtphhnhldbajaoaaGreatDoor
open Go.RowKit Go.ChangeShapes Go.WideShapes Go.ChangeAt

/-- A type of entries. -/
def Four (e : TypeId) : Prop := (Tryz.prog.info? e).map (fun i => (i.zero, i.size, i.bytes)) = some (some (.agg #[.string ⟨#[]⟩, .string ⟨#[]⟩, .int .i64 0, .int .i64 0]), 4, 48)
theorem four_C : Four 170 := by unfold Four; kernel_rfl
theorem SlC.nil {w : World} : SlC w none [] := fun h => absurd rfl h

/-- The value v is a slice of the call's own that holds the entries l. -/
def Cgs (e : TypeId) (w : World) (base : Nat) (v : Value) (l : List CgE) : Prop := w.ownsRow base e 4 v l.length (l.flatMap cgL)
theorem Cgs.nil (e : TypeId) (w : World) (base : Nat) : Cgs e w base (.slice none 0 0) [] := World.ownsRow_nil _ _ _ _
theorem Cgs.base {e : TypeId} {w : World} {b b' : Nat} {v : Value} {l : List CgE} (h : Cgs e w b v l) (hb : b' ≤ b) : Cgs e w b' v l := by
  refine ⟨h.1, ?_⟩
  rcases h.2 with h | ⟨g, cap, cur, h1, h2, h3⟩
  · exact .inl h
  · exact .inr ⟨g, cap, cur, h1, Nat.le_trans hb h2, h3⟩
theorem Cgs.keep {e : TypeId} {w w' : World} {base : Nat} {v : Value} {l : List CgE} (h : Cgs e w base v l) (hb : Below w.heap.size w w') : Cgs e w' base v l :=
  ownsRow_of h fun k _ hlt => hb.block k hlt
theorem Cgs.view {e : TypeId} {w : World} {base : Nat} {v : Value} {l : List CgE} (h : Cgs e w base v l) : ∃ a cap, v = .slice a l.length cap ∧ SlC w a l := by
  have h' := h
  rcases h.2 with ⟨rfl, h0⟩ | ⟨g, cap, cur, rfl, hg, hh, _⟩
  · have : l = [] := List.eq_nil_of_length_eq_zero h0
    subst this
    exact ⟨none, 0, rfl, SlC.nil⟩
  · refine ⟨some ⟨g, 0, none⟩, cap, rfl, fun _ => ⟨g, 0, rfl, lt_of_block hh, fun i x hx j u hj => ?_⟩⟩
    have hi : i < l.length := (List.getElem?_eq_some_iff.1 hx).1
    have hj4 : j < 4 := (List.getElem?_eq_some_iff.1 hj).1
    have h0 := flat_get cgL 4 (fun _ => rfl) l i x hx j hj4
    rw [Nat.zero_add, World.ownsRow.cellAt h' (i * 4 + j) (by omega), h0]
    exact hj
theorem Cgs.own_blk {e : TypeId} {w : World} {base : Nat} {v : Value} {l : List CgE} (h : Cgs e w base v l) : ∀ k, v.ownBlock = some k → base ≤ k ∧ k < w.heap.size := fun k hk => World.ownsRow.lt h k hk
/-- 'append(out, x)' of an entry that lies in a box of its own. -/
theorem wp_cgs_push {t e : TypeId} (ht : Tryz.prog.underlying t = some (.slice e)) (he : Four e) {ops : Array Oper} {rest : List Oper} {o : Oper} {a : Act} {Q : Exit → Act → World → Prop} (W : World) (hgd : o.guard = none) (s x : Operand)
    (ho : o.op = .call { callee := .builtin .append, args := #[s, x], argTypes := #[t, t] })
    (base : Nat) (v : Value) (l : List CgE) (hs : a.eval s = v) (hb : Cgs e W base v l)
    (g c : Nat) (p : CgE) (hx : a.eval x = .slice (some ⟨g, 0, none⟩) 1 c) (hcell : ∀ j u, (cgL p)[j]? = some u → W.cell? ⟨g, j, none⟩ = some u)
    (hbytes : l.length + 1 ≤ 100000) (hbase : base ≤ W.heap.size)
    (h : ∀ v' w', Cgs e w' base v' (l ++ [p]) → W.grownBy w' v.ownBlock → (v'.ownBlock = v.ownBlock ∨ v'.ownBlock = some W.heap.size) → wpList Tryz.prog ops Q rest (a.put o.dst v') w') : wpList Tryz.prog ops Q (o :: rest) a W := by
  obtain ⟨i0, hi, hz0, hz1, hz2⟩ := info_parts he
  obtain ⟨v', w', hr, hown, hg, _, hob⟩ := run_append_own_at (P := Tryz.prog) W base t o.type e i0 (.agg #[.string ⟨#[]⟩, .string ⟨#[]⟩, .int .i64 0, .int .i64 0]) 4 48 ht hi hz0 hz1 hz2 rfl (by decide) v l.length _ hb ⟨g, 0, none⟩ 1 c (cgL p) rfl
    (fun j u hj => by
      rw [add_plain, Nat.zero_add]
      exact hcell j u hj) (by
      intro u hu
      simp only [cgL, List.mem_cons, List.not_mem_nil, or_false] at hu
      rcases hu with rfl | rfl | rfl | rfl <;> rfl) (by unfold maxLen; omega) (by omega) hbase
  refine wpList_plain hgd fun K hK => ?_
  unfold Oper.wp execOp
  simp only [ho, resolve, invoke, builtin, Sem.run_bind, Sem.run_pure, Result.andThen_ok, List.map_toArray, List.map_cons, List.map_nil, hs, hx, hr]
  refine hK _ _ (h v' w' ?_ hg hob)
  unfold Cgs
  rw [List.flatMap_append, List.length_append, List.flatMap_cons, List.flatMap_nil, List.append_nil]
  exact hown
theorem below_cgs {w w' : World} {base : Nat} {e : TypeId} {v : Value} {l : List CgE} {a : World} (h : Below base a w) (hg : w.grownBy w' v.ownBlock) (hr : Cgs e w base v l) (hb : base ≤ w.heap.size) : Below base a w' :=
  h.grown hg hb fun k hk => (World.ownsRow.lt hr k hk).1
end Go.Proofs.YtphhnhldbajaoaaGreatDoor

namespace Go.Proofs.YtphhnhldbajaoaaGreatDoor
open Go Go.RowKit Go.Shelf Go.ChangeShapes Go.WideShapes Go.ChangeAt

attribute [local go_sem] Oper.semAt_some

/-- What lies in the walk's own blocks, but block c. -/
def SameBut (g n c : Nat) (X W : World) : Prop := n ≤ W.heap.size ∧ ∀ i, i < n → g ≤ i → i ≠ c → W.heap[i]? = X.heap[i]?
theorem SameBut.keep {g n c : Nat} {X W W' : World} (h : SameBut g n c X W) (hb : Below W.heap.size W W') : SameBut g n c X W' :=
  ⟨Nat.le_trans h.1 hb.size, fun i hi hg hc => (hb.block i (Nat.lt_of_lt_of_le hi h.1)).trans (h.2 i hi hg hc)⟩
theorem SameBut.put {g n c : Nat} {X W : World} (h : SameBut g n c X W) (r : Nat) (o : Obj) (hr : n ≤ r) : SameBut g n c X (W.putObj r o) :=
  ⟨Nat.le_trans h.1 (putObj_os _ _ _), fun i hi hg hc => (World.putObj_heap_other (by omega)).trans (h.2 i hi hg hc)⟩
theorem SameBut.box {g n c b : Nat} {X W : World} {t : TypeId} {cs : Array Value} (h : SameBut g n c X W) (hx : Box X b t cs) (h1 : b < n) (h2 : g ≤ b) (h3 : b ≠ c) : Box W b t cs := hx.of (h.2 b h1 h2 h3)

theorem Cgs.put {e : TypeId} {w : World} {base r : Nat} {v : Value} {l : List CgE} (h : Cgs e w base v l) (o : Obj) (hr : r < base) : Cgs e (w.putObj r o) base v l :=
  ownsRow_of h fun k hk _ => World.putObj_heap_other (by have := h.own_blk k hk; omega)
theorem Cgs.set {e : TypeId} {w : World} {base r j : Nat} {v u : Value} {l : List CgE} (h : Cgs e w base v l) (hr : r < base) : Cgs e (w.setCell ⟨r, j, none⟩ u) base v l :=
  ownsRow_of h fun k hk _ => heap_setCell_other w ⟨r, j, none⟩ k u (by have := h.own_blk k hk; show k ≠ r; omega)

/-- 'append(out, x)' in a round. -/
theorem wpListIn_cgs_push {F : Fence} {n : Nat} {t e : TypeId} (ht : Tryz.prog.underlying t = some (.slice e)) (he : Four e) {ops : Array Oper} {rest : List Oper} {o : Oper} {a : Act} {Q : Exit → Act → World → Prop} (W : World) (hgd : o.guard = none) (s x : Operand)
    (ho : o.op = .call { callee := .builtin .append, args := #[s, x], argTypes := #[t, t] })
    (base : Nat) (v : Value) (l : List CgE) (hs : a.eval s = v) (hb : Cgs e W base v l)
    (g c : Nat) (p : CgE) (hx : a.eval x = .slice (some ⟨g, 0, none⟩) 1 c) (hcell : ∀ j u, (cgL p)[j]? = some u → W.cell? ⟨g, j, none⟩ = some u)
    (hbytes : l.length + 1 ≤ 100000) (hbase : base ≤ W.heap.size)
    (h : ∀ b' cap w', Cgs e w' base (.slice b' (l.length + 1) cap) (l ++ [p]) → W.grownBy w' v.ownBlock → wpListIn F n Tryz.prog ops Q rest (a.put o.dst (.slice b' (l.length + 1) cap)) w') : wpListIn F n Tryz.prog ops Q (o :: rest) a W := by
  obtain ⟨i0, hi, hz0, hz1, hz2⟩ := info_parts he
  refine wpListIn_append_own W hgd s x t ho base e i0 (.agg #[.string ⟨#[]⟩, .string ⟨#[]⟩, .int .i64 0, .int .i64 0]) 4 48 ht hi hz0 hz1 hz2 rfl (by decide) v l.length _ hs hb ⟨g, 0, none⟩ 1 c (cgL p) hx rfl
    (fun j u hj => by
      rw [add_plain, Nat.zero_add]
      exact hcell j u hj) (by
      intro u hu
      simp only [cgL, List.mem_cons, List.not_mem_nil, or_false] at hu
      rcases hu with rfl | rfl | rfl | rfl <;> rfl) (by unfold maxLen; omega) (by omega) hbase ?_
  intro v' w' hown hg _
  have hC : Cgs e w' base v' (l ++ [p]) := by
    unfold Cgs
    rw [List.flatMap_append, List.length_append, List.flatMap_cons, List.flatMap_nil, List.append_nil]
    exact hown
  obtain ⟨b', cap, rfl, _⟩ := hC.view
  rw [List.length_append] at hC ⊢
  exact h b' cap w' hC hg

def AmJ (w X : World) (g z : Nat) (x : SecD) (fr k : Nat) (W : World) : Prop := Below g w W ∧ SameBut g (g + 5) (g + 1) X W ∧ ∃ v, Box W (g + 1) 185 #[v] ∧ Cgs 170 W (z + 2) v (amongK x.e x.f fr k)

set_option maxRecDepth 100000 in
set_option maxHeartbeats 2000000 in
theorem among_in (s b m : Nat) (x : SecD) (w : World) (h : SecAt w s b m x) (hx : x.f ≤ 512) (hn : x.n ≤ 512) (fr tu : Nat) (hfr : fr ≤ 1000) (hto : tu ≤ 1000) :
    CallsIn Fence.wide 6 Tryz.prog 146 #[.pointer (some ⟨s, 0, none⟩), .int .i64 fr, .int .i64 tu] w fun e w' => ∃ v, e = .returned v ∧ Cgs 170 w' w.heap.size v (amongK x.e x.f fr (min tu (roomN x.n))) ∧ Below w.heap.size w w' := by
  have B0 := Box.new w 90 #[.pointer (some ⟨s, 0, none⟩)]
  have B1 := Box.new (w.alloc (.cells #[.pointer (some ⟨s, 0, none⟩)] 90)) 185 #[.slice none 0 0]
  simp only [size_alloc] at B1
  have hb0 : Below w.heap.size w ((w.alloc (.cells #[.pointer (some ⟨s, 0, none⟩)] 90)).alloc (.cells #[.slice none 0 0] 185)) := ((Below.refl _ w).alloc (Nat.le_refl _) _).alloc (by rw [size_alloc]; omega) _
  have HB0 := Lib.hid hb0
  have HA1 := Lib.hid B1
  have HA0 := Lib.hid (B0.alloc (.cells #[.slice none 0 0] 185))
  have HS := Lib.hid h
  have HX := Lib.hid hx
  have HN := Lib.hid hn
  have HFT := Lib.hid (And.intro hfr hto)
  have a0 := HA0.out.cell 0 _ rfl
  clear h hx hn hfr hto B0 B1 hb0
  refine callsIn_of_wp_marks Tryz.func146 rfl trivial ?_ rfl
  simp only [Tryz.ntmps146, List.size_toArray, List.length_cons, List.length_nil, Nat.reduceAdd, Nat.reduceSub, Array.replicate_succ, Array.replicate_zero, List.push_toArray, List.append_toArray, List.nil_append, List.cons_append]
  gi_wp2_with fail
  refine ⟨trivial, ?_⟩
  generalize hW1 : (w.alloc (.cells #[.pointer (some ⟨s, 0, none⟩)] 90)).alloc (.cells #[.slice none 0 0] 185) = W1 at *
  have hz1 : W1.heap.size = w.heap.size + 2 := by rw [← hW1]; simp only [size_alloc]
  clear hW1
  refine (callsIn_wide.2 (places_any _ _ _ _)).mono ?_
  rintro e X ⟨rfl, hb, bs, b4, b5⟩
  rw [hz1] at hb bs b4 b5 ⊢
  obtain ⟨g, hg⟩ : ∃ g, g = w.heap.size := ⟨_, rfl⟩
  rw [← hg] at HB0 HA0 HA1 hz1 hb bs b4 b5 ⊢
  have HG := Lib.hid hg
  have R0 := Lib.hid (HA0.out.keep hb (by omega))
  have R1 := Lib.hid (HA1.out.keep hb (by omega))
  have HBX := Lib.hid (HB0.out.trans (hb.mono (by omega)))
  have HBS := Lib.hid bs
  have HB4 := Lib.hid b4
  have HB5 := Lib.hid b5
  clear hb bs b4 b5 HB0 HA0 HA1 a0 hz1 hg
  simp only [Nat.add_assoc, Nat.reduceAdd] at *
  obtain ⟨z, hz⟩ : ∃ z, z = X.heap.size := ⟨_, rfl⟩
  have HZ : Hid (z = X.heap.size ∧ g + 5 ≤ z) := ⟨hz, by rw [hz]; exact HB5.out.lt⟩
  have HL0 : Hid (SameBut g (g + 5) (g + 1) X X) := ⟨by rw [← hz]; exact HZ.out.2, fun _ _ _ _ => rfl⟩
  clear hz
  gi_wp2_with fail
  refine range_by (gf := 162) (lb := #[.pointer (some ⟨g + 3, 0, none⟩), .pointer (some ⟨g + 4, 0, none⟩), .pointer (some ⟨g + 2, 0, none⟩)]) (by decide) rfl (enters_of Tryz.func162 (by kernel_rfl) rfl)
    fr (min tu (roomN x.n)) (fun k => #[.int .i64 (secN x.f k)]) (fun _ => rfl) (fun W => Below g w W ∧ SameBut g (g + 5) (g + 1) X W)
    (fun l J Jx W hgd hbl hyy h0 => ?iter) (AmJ w X g z x fr) (fun _ => False) (fun k W h => ⟨h.1, h.2.1⟩) ?jb ?jp (fun _ _ h _ => h.elim) ⟨HBX.out, HL0.out, _, R1.out, by rw [amongK_none _ _ _ _ (Nat.le_refl _)]; exact Cgs.nil _ _ _⟩ ?body ?fin (fun _ h _ _ => h.elim)
  case iter =>
    have hB : ∀ W, Below g w W → Box W s 158 (secC b m x) := fun W hb => HS.out.box.keep hb (by rw [HG.out]; exact HS.out.box.lt)
    have hr1 : roomN x.n ≤ 1000 := Nat.le_trans (room_le _) (Nat.le_trans HN.out (by decide))
    refine places_iter 5 l (g + 2) (g + 3) (g + 4) (by decide) (some ⟨s, 0, none⟩) fr tu (roomN x.n) HFT.out.2 HFT.out.1 hr1 (secN x.f) _ ?_ ?_ ?_ J Jx W hgd hbl hyy h0
    · rintro W ⟨hb, hl⟩
      exact ⟨hl.box HBS.out (by omega) (by omega) (by omega), hl.box HB4.out (by omega) (by omega) (by omega), hl.box HB5.out (by omega) (by omega) (by omega)⟩
    · rintro W ⟨hb, hl⟩
      exact room_any s b m x W (hB W hb) HN.out
    · rintro W k ⟨hb, hl⟩ h1 h2
      exact sector_any s b m x W k (hB W hb) HX.out (by have := HFT.out.2; omega)
  case jb =>
    rintro k W W' ⟨hb, hl, v, hv, hc⟩ hbb
    exact ⟨hb.trans (hbb.mono (by have := hl.1; omega)), hl.keep hbb, v, hv.keep hbb hv.lt, hc.keep hbb⟩
  case jp =>
    rintro k W o ⟨hb, hl, v, hv, hc⟩ hs
    have := HZ.out
    exact ⟨below_put hb (by rw [HG.out]; exact Nat.le_refl _) _ _ (by omega), hl.put _ _ (by omega), v, hv.of (World.putObj_heap_other (by omega)), hc.put _ (by omega)⟩
  case body =>
    rintro k W h1 h2 ⟨hb, hl, v, hv, hc⟩ hs
    have HB := Lib.hid hb
    have HL := Lib.hid hl
    have HV := Lib.hid hv
    have HC := Lib.hid hc
    have HK := Lib.hid (And.intro h1 h2)
    rw [← HZ.out.1] at hs ⊢
    have HSZ := Lib.hid hs
    clear hb hl hv hc h1 h2 hs
    gi_wp2_with fail
    intro o
    have hzz := HZ.out.2
    have hb1 := below_put (o := o) HB.out (by rw [HG.out]; exact Nat.le_refl _) (z + 1) (by omega)
    have hl1 := HL.out.put (z + 1) o (by omega)
    have hv1 : Box (W.putObj (z + 1) o) (g + 1) 185 #[v] := HV.out.of (World.putObj_heap_other (by omega))
    have hc1 := HC.out.put (r := z + 1) o (by omega)
    have hd1 : (W.putObj (z + 1) o).heap[z]? = W.heap[z]? := World.putObj_heap_other (by omega)
    have hs1 := putObj_os W (z + 1) o
    obtain ⟨r1, hr1⟩ : ∃ r1, r1 = (W.putObj (z + 1) o).heap[z + 1]? := ⟨_, rfl⟩
    rw [← hr1]
    generalize W.putObj (z + 1) o = W1 at *
    have HB1 := Lib.hid hb1
    have HL1 := Lib.hid hl1
    have HV1 := Lib.hid hv1
    have HC1 := Lib.hid hc1
    have HD1 := Lib.hid hd1
    have HS1 := Lib.hid hs1
    have HR1 := Lib.hid hr1
    have a0 : W1.cell? ⟨g, 0, none⟩ = some (.pointer (some ⟨s, 0, none⟩)) := (HL1.out.box R0.out (by omega) (by omega) (by omega)).cell 0 _ rfl
    have hsa : SecAt W1 s b m x := HS.out.keep (by rw [← HG.out]; exact HB1.out)
    have a3 : W1.cell? ⟨s, 3, none⟩ = some (.map (some m)) := hsa.box.cell 3 _ rfl
    have hkw : (Lit.int .i64 ((secN x.f k : Nat) : Int)).wf = true := by
      have h1 : secN x.f k < x.f + x.n := secN_lt (by have := HK.out.2; omega)
      have := HX.out
      have := HN.out
      exact nat_wf (by omega)
    have hlook := slook_ok hsa.map hkw
    clear hb1 hl1 hv1 hc1 hd1 hs1 hr1 hsa hzz
    cases hf : findS x.e (secN x.f k : Int) with
    | none =>
      rw [hf] at hlook
      simp only [Option.isSome_none] at hlook
      have HF := Lib.hid hf
      clear hf hkw
      gi_wp2
      have hzz := HZ.out
      have hal : Below W1.heap.size W1 (W1.alloc (.cells #[.string ⟨#[]⟩, .string ⟨#[]⟩, .int .i64 0, .int .i64 0] 170)) := (Below.refl _ _).alloc (Nat.le_refl _) _
      have hsz := HS1.out
      have hss := HSZ.out
      refine ⟨by omega, ?_, ?_, HB1.out.trans (hal.mono (by have := HL1.out.1; omega)), HL1.out.keep hal, v, HV1.out.keep hal HV1.out.lt, ?_⟩
      · rw [HR1.out]; exact hal.block _ (by omega)
      · rw [← HD1.out]; exact hal.block _ (by omega)
      · rw [amongK_succ _ _ _ _ HK.out.1, HF.out]
        simp only [Option.toList_none, List.append_nil]
        exact HC1.out.keep hal
    | some y =>
      rw [hf] at hlook
      simp only [Option.isSome_some] at hlook
      have HF := Lib.hid hf
      have HAL : Hid (Below W1.heap.size W1 (W1.alloc (.cells (cgA y) 170))) := (Below.refl _ _).alloc (Nat.le_refl _) _
      have HSA : Hid ((W1.alloc (.cells (cgA y) 170)).heap.size = W1.heap.size + 1) := size_alloc _ _
      have BN := Lib.hid (Box.new W1 170 (cgA y))
      have HV2 := Lib.hid (HV1.out.keep HAL.out HV1.out.lt)
      have HC2 := Lib.hid (HC1.out.keep HAL.out)
      have HB2 := Lib.hid (HB1.out.trans (HAL.out.mono (by have := HL1.out.1; omega)))
      have HL2 := Lib.hid (HL1.out.keep HAL.out)
      have HR2 : Hid ((W1.alloc (.cells (cgA y) 170)).heap[z + 1]? = r1) := by show _ = _; rw [HR1.out]; exact HAL.out.block _ (by have := HSZ.out; have := HS1.out; omega)
      have HD2 : Hid ((W1.alloc (.cells (cgA y) 170)).heap[z]? = W.heap[z]?) := by show _ = _; rw [← HD1.out]; exact HAL.out.block _ (by have := HSZ.out; have := HS1.out; omega)
      have HLE := amongK_len x.e x.f fr k
      have HLB : Hid ((amongK x.e x.f fr k).length + 1 ≤ 100000) := by show _ ≤ _; have := HK.out.2; have := HFT.out.2; omega
      have HSU := Lib.hid (amongK_succ x.e x.f fr k HK.out.1)
      rw [HF.out, Option.toList_some] at HSU
      have n0 := BN.out.cell 0 _ rfl
      have n1 := BN.out.cell 1 _ rfl
      have n2 := BN.out.cell 2 _ rfl
      have n3 := BN.out.cell 3 _ rfl
      have v0 := HV2.out.cell 0 _ rfl
      obtain ⟨nl, hnl⟩ : ∃ nl, nl = amongK x.e x.f fr k := ⟨_, rfl⟩
      rw [← hnl] at HC2 HLB HSU
      clear hf hkw HLE hnl
      obtain ⟨Wb, hWb⟩ : ∃ Wb, Wb = (W1.alloc (.cells #[.string y.key, .string y.sum, .int .i64 y.len, .int .i64 y.pos] 170)).alloc (.cells #[.string y.key, .string y.sum, .int .i64 y.len, .int .i64 y.pos] 170) := ⟨_, rfl⟩
      have HAB : Hid (Below (W1.heap.size + 1) (W1.alloc (.cells (cgA y) 170)) Wb) := by rw [hWb]; exact (Below.refl _ _).alloc (by rw [size_alloc]; omega) _
      have HCB : Hid (Cgs 170 Wb (z + 2) v nl) := HC2.out.keep (by rw [HSA.out]; exact HAB.out)
      have HVB : Hid (Box Wb (g + 1) 185 #[v]) := HV2.out.keep HAB.out (by have := HL1.out.1; omega)
      have HBB : Hid (Below g w Wb) := HB2.out.trans (HAB.out.mono (by have := HL1.out.1; omega))
      have HLB2 : Hid (SameBut g (g + 5) (g + 1) X Wb) := HL2.out.keep (by rw [HSA.out]; exact HAB.out)
      have HRB : Hid (Wb.heap[z + 1]? = r1) := by show _ = _; rw [← HR2.out]; exact HAB.out.block _ (by have := HSZ.out; have := HS1.out; omega)
      have HDB : Hid (Wb.heap[z]? = W.heap[z]?) := by show _ = _; rw [← HD2.out]; exact HAB.out.block _ (by have := HSZ.out; have := HS1.out; omega)
      have BNB : Hid (Box Wb (W1.heap.size + 1) 170 (cgA y)) := by
        have := Box.new (W1.alloc (.cells (cgA y) 170)) 170 (cgA y)
        rw [HSA.out] at this
        rw [hWb]; exact this
      have HSB : Hid (W.heap.size ≤ Wb.heap.size ∧ z + 2 ≤ W.heap.size) := ⟨by have := HAB.out.size; have := HS1.out; rw [HSA.out] at *; omega, HSZ.out⟩
      have HWB := Lib.hid hWb
      clear hWb HC1 HC2 HV1 HV2 HB1 HB2 HL1 HL2 HR1 HR2 HD1 HD2 HS1 HSZ HC HV HB HL HAL BN HAB
      gi_wp2_with (gi_at_builtin; go_must (rw [← HWB.out]; refine wpListIn_cgs_push Tryz.underlying185 four_C Wb rfl _ _ rfl (z + 2) v nl rfl HCB.out (W1.heap.size + 1) 1 y rfl (fun j u hj => BNB.out.cell j u (by simpa [cgL] using hj)) HLB.out (by have := HSB.out; omega) ?_; intro b' cap w5 hC5 hg5; have hv5 : Box w5 (g + 1) 185 #[v] := HVB.out.of (hg5.block _ HVB.out.lt (fun e => by have := HCB.out.own_blk _ e.symm; have := HZ.out.2; omega)); have e0 := hv5.cell 0 _ rfl; have e1 := hv5.free 0; have HC5 := Lib.hid hC5; have HG5 := Lib.hid hg5; have HV5 := Lib.hid hv5; clear hC5 hg5 hv5))
      have hzz := HZ.out.2
      have hsb := HSB.out
      have hg5 := HG5.out
      have ho := Only.set (g + 1) 0 w5 (.slice b' (nl.length + 1) cap)
      have hne : ∀ k, g + 1 ≠ k → (w5.setCell ⟨g + 1, 0, none⟩ (.slice b' (nl.length + 1) cap)).heap[k]? = w5.heap[k]? := fun k hk => heap_setCell_other w5 ⟨g + 1, 0, none⟩ k _ (by show k ≠ g + 1; omega)
      have hgo : ∀ k, k < z + 2 → w5.heap[k]? = Wb.heap[k]? := fun k hk => hg5.block k (by omega) (fun e => by have := HCB.out.own_blk _ e.symm; omega)
      refine ⟨by have := hg5.size; omega, ?_, ?_, ?_, ⟨?_, ?_⟩, _, HV5.out.set 0 _, ?_⟩
      · rw [hne _ (by omega), hgo _ (by omega)]; exact HRB.out
      · rw [hne _ (by omega), hgo _ (by omega)]; exact HDB.out
      · exact (HBB.out.grown hg5 (by omega) (fun k hk => by have := HCB.out.own_blk k hk; omega)).trans (ho.below' (by omega) (by have := hg5.size; omega))
      · have := hg5.size; have := ho.size; omega
      · intro i hi h1 h2
        rw [hne _ (by omega), hgo _ (by omega)]
        exact HLB2.out.2 i hi h1 h2
      · rw [HSU.out]
        have := HC5.out.set (r := g + 1) (j := 0) (u := .slice b' (nl.length + 1) cap) (by omega)
        exact this
  case fin =>
    rintro W ⟨hb, hl, v, hv, hc⟩ hs hd
    have hc2 : Cgs 170 W (z + 2) v (amongK x.e x.f fr (min tu (roomN x.n))) := by
      by_cases h : fr ≤ min tu (roomN x.n)
      · rw [Nat.max_eq_right h] at hc; exact hc
      · rw [Nat.max_eq_left (by omega)] at hc
        rw [amongK_none _ _ _ _ (by omega)]
        rwa [amongK_none _ _ _ _ (Nat.le_refl _)] at hc
    have HB := Lib.hid hb
    have HL := Lib.hid hl
    have HV := Lib.hid hv
    have HC := Lib.hid hc2
    rw [← HZ.out.1] at hd ⊢
    have HD := Lib.hid hd
    have v0 := hv.cell 0 _ rfl
    clear hb hl hc hs hd hv hc2
    obtain ⟨b', cap, rfl, _⟩ := HC.out.view
    gi_wp2
    have hzz := HZ.out
    refine ⟨by simp, .inl ⟨_, _, rfl, run_takeDeferred HD.out, ?_⟩⟩
    refine ⟨_, results_tmp rfl _ _ _, ?_⟩
    refine ⟨_, rfl, (HC.out.put (r := z) _ (by omega)).base (by rw [← HG.out]; omega), ?_⟩
    rw [← HG.out]
    exact below_put HB.out (by rw [HG.out]; exact Nat.le_refl _) _ _ (by omega)

theorem among_any (s b m : Nat) (x : SecD) (w : World) (h : SecAt w s b m x) (hx : x.f ≤ 512) (hn : x.n ≤ 512) (fr tu : Nat) (hfr : fr ≤ 1000) (hto : tu ≤ 1000) :
    Calls Tryz.prog 146 #[.pointer (some ⟨s, 0, none⟩), .int .i64 fr, .int .i64 tu] w fun e w' => ∃ v, e = .returned v ∧ Cgs 170 w' w.heap.size v (amongK x.e x.f fr (min tu (roomN x.n))) ∧ Below w.heap.size w w' :=
  callsIn_wide.1 (among_in s b m x w h hx hn fr tu hfr hto)
theorem entryof_any (s b m : Nat) (x : SecD) (key : ByteArray) (w : World) (h : SecAt w s b m x) (hx : x.f ≤ 512) (hn : x.n ≤ 512) :
    Calls Tryz.prog 123 #[.pointer (some ⟨s, 0, none⟩), .string key] w fun e w' => e = .returned (.tuple #[cgV ((entOf x key).getD noE), .bool (entOf x key).isSome]) ∧ Below w.heap.size w w' :=
  callsIn_wide.1 (entryof_in s b m x key w h hx hn)
theorem isplace_any (s b m : Nat) (x : SecD) (w : World) (h : Box w s 158 (secC b m x)) (hx : x.f ≤ 512) (hn : x.n ≤ 512) (fr : Nat) (hfr : fr ≤ 900) (v : Int) :
    Calls Tryz.prog 153 #[.pointer (some ⟨s, 0, none⟩), .int .i64 fr, .int .i64 v] w fun e w' => e = .returned (.bool (isPl x.f x.n fr v)) ∧ Below w.heap.size w w' :=
  callsIn_wide.1 (isplace_in s b m x w h hx hn fr hfr v)
end Go.Proofs.YtphhnhldbajaoaaGreatDoor

namespace Go.Proofs.YtphhnhldbajaoaaGreatDoor
open Go Go.RowKit Go.ChangeShapes Go.WideShapes Go.ChangeAt

def ScF (s b : Nat) (x : SecD) (G : List Nat) (W : World) : Prop := ∃ m, G = [s, m] ∧ SecAt W s b m x
theorem SecAt.of {w w' : World} {s b m : Nat} {x : SecD} (h : SecAt w s b m x) (h1 : w'.heap[s]? = w.heap[s]?) (h2 : w'.heap[m]? = w.heap[m]?) : SecAt w' s b m x := ⟨h.box.of h1, h.map.of h2, h.ne⟩
theorem fixed_sc (s b : Nat) (x : SecD) : Fixed (ScF s b x) := by
  refine ⟨?_, ?_⟩
  · rintro G S w1 w2 ⟨m, rfl, h⟩ hc hn
    exact ⟨m, rfl, h.of (hc.block s h.box.lt (hn s (by simp))) (hc.block m h.map.lt (hn m (by simp)))⟩
  · rintro G w ⟨m, rfl, h⟩ k hk
    simp only [List.mem_cons, List.not_mem_nil, or_false] at hk
    rcases hk with rfl | rfl
    · exact h.box.lt
    · exact h.map.lt
/-- The cache, and what becomes of all when it alone is changed. -/
theorem One.secE {B : Nat} {P : List Nat → World → Prop} {b s : Nat} {d : DevD} {x : SecD} {w : World} (hP : Fixed P) (h : One B (Both P (ScF s b x)) b d w) : ∃ m, SecAt w s b m x ∧ B ≤ s ∧ B ≤ m ∧
    ∀ w' x', Chg [s, m] w w' → SecAt w' s b m x' → One B (Both P (ScF s b x')) b d w' ∧ Below B w w' := by
  obtain ⟨hz, F, G, h1, ⟨G1, G2, rfl, h2, ⟨m, rfl, h3⟩, h4⟩, h5, h6⟩ := h
  have hs := h6 s (by simp)
  have hm := h6 m (by simp)
  refine ⟨m, h3, hs, hm, fun w' x' hc hx => ⟨⟨Nat.le_trans hz hc.size, F, _, (fixed_dev b d).keep _ _ _ _ h1 hc (fun k hk hm2 => ?_), ⟨G1, [s, m], rfl, hP.keep _ _ _ _ h2 hc (fun k hk hm2 => h4 k hk hm2), ⟨m, rfl, hx⟩, h4⟩, h5, h6⟩, hc.below hz (fun k hk => ?_)⟩⟩
  · exact (h5 k hk).2 (List.mem_append_right _ hm2)
  · exact h6 k (List.mem_append_right _ hk)

/-- What Find answers, and the cache behind it. -/
def findX (d : DevD) (x : SecD) (key : ByteArray) : (ByteArray × Bool) × SecD := match entOf x key with
  | none => ((⟨#[]⟩, false), x)
  | some y => if chkD d (1, y.pos) 0 = 0 ∧ ((tellD d (1, y.pos)).size : Int) = y.len ∧ sha (tellD d (1, y.pos)) = y.sum then ((tellD d (1, y.pos), true), x) else ((⟨#[]⟩, false), { x with e := forgetS x.e y.pos })
theorem findX_none {d : DevD} {x : SecD} {key : ByteArray} (h : entOf x key = none) : findX d x key = ((⟨#[]⟩, false), x) := by unfold findX; rw [h]
theorem findX_yes {d : DevD} {x : SecD} {key : ByteArray} {y : CgE} (h : entOf x key = some y) (h2 : chkD d (1, y.pos) 0 = 0 ∧ ((tellD d (1, y.pos)).size : Int) = y.len ∧ sha (tellD d (1, y.pos)) = y.sum) : findX d x key = ((tellD d (1, y.pos), true), x) := by
  unfold findX; rw [h]; exact if_pos h2
theorem findX_no {d : DevD} {x : SecD} {key : ByteArray} {y : CgE} (h : entOf x key = some y) (h2 : ¬ (chkD d (1, y.pos) 0 = 0 ∧ ((tellD d (1, y.pos)).size : Int) = y.len ∧ sha (tellD d (1, y.pos)) = y.sum)) : findX d x key = ((⟨#[]⟩, false), { x with e := forgetS x.e y.pos }) := by
  unfold findX; rw [h]; exact if_neg h2
theorem amongK_mem {e : List EnD} {f fr k : Nat} {y : CgE} (h : y ∈ amongK e f fr k) : ∃ p, fr ≤ p ∧ p < k ∧ findS e (secN f p) = some y := by
  unfold amongK at h
  rw [List.mem_filterMap] at h
  obtain ⟨p, hp, hy⟩ := h
  rw [List.mem_range'_1] at hp
  exact ⟨p, hp.1, by omega, hy⟩
theorem entOf_some {x : SecD} {key : ByteArray} {y : CgE} (h : entOf x key = some y) : y.key = key ∧ ∃ p, p < roomN x.n ∧ findS x.e (secN x.f p) = some y := by
  unfold entOf at h
  have h1 := List.find?_some h
  obtain ⟨p, _, h2, h3⟩ := amongK_mem (List.mem_of_find?_eq_some h)
  exact ⟨by simpa using h1, p, h2, h3⟩

section
variable {B : Nat} {P : List Nat → World → Prop} (hP : Fixed P) {b s : Nat} {d : DevD} {x : SecD} {w : World} (h : One B (Both P (ScF s b x)) b d w) (hx : x.f ≤ 512) (hn : x.n ≤ 512)
include hP h hx hn

set_option maxRecDepth 100000 in
set_option maxHeartbeats 2000000 in
theorem find_any (key : ByteArray) (hK : Kt w) (hB : 0 < B) (hT : ∀ l, (tellD d l).size ≤ 140737488355328) (hpos : ∀ k y, findS x.e k = some y → y.pos = k ∧ 0 ≤ k ∧ k < 1000) :
    Calls Tryz.prog 114 #[.pointer (some ⟨s, 0, none⟩), .string key] w fun e w' => e = .returned (.tuple #[.string (findX d x key).1.1, .bool (findX d x key).1.2]) ∧ One B (Both P (ScF s b (findX d x key).2)) b d w' ∧ Below B w w' := by
  obtain ⟨m, hs, hBs, hBm, hto⟩ := h.secE hP
  have HBW : Hid (B ≤ w.heap.size) := h.1
  have HO := Lib.hid h
  have HS := Lib.hid hs
  have HX := Lib.hid hx
  have HN := Lib.hid hn
  have HT := Lib.hid hT
  have HK := Lib.hid hK
  have HBP := Lib.hid hB
  have HP := Lib.hid hP
  have HPO := Lib.hid hpos
  have HTO := Lib.hid hto
  clear h hP hs hx hn hT hK hpos hto hB
  go_enter Tryz.func114, Tryz.ntmps114
  go_wp2_with fail
  refine (entryof_any s b m x key _ HS.out HX.out HN.out).mono ?_
  rintro e w1 ⟨rfl, hb⟩
  have HO1 := Lib.hid (HO.out.keep (fixed_both HP.out (fixed_sc s b x)) hb)
  have HB1 := Lib.hid (hb.mono HBW.out)
  have HK1 := Lib.hid (HK.out.below HB1.out HBP.out)
  have HZ1 := Lib.hid (HO1.out.1)
  have HW1 := Lib.hid hb
  clear hb
  cases he : entOf x key with
  | none =>
    have HR := Lib.hid (findX_none (d := d) he)
    simp only [Option.getD_none, Option.isSome_none, noE]
    have hal := HO1.out.keep (fixed_both HP.out (fixed_sc s b x)) ((Below.refl w1.heap.size w1).alloc (Nat.le_refl _) (.cells #[.string ⟨#[]⟩, .string ⟨#[]⟩, .int .i64 0, .int .i64 0] 170))
    have HAL := Lib.hid hal
    have HBL := Lib.hid (HB1.out.alloc HZ1.out (.cells #[.string ⟨#[]⟩, .string ⟨#[]⟩, .int .i64 0, .int .i64 0] 170))
    clear he hal
    go_wp2
    go_ret2
    exact ⟨by rw [HR.out]; rfl, by rw [HR.out]; exact HAL.out, HBL.out⟩
  | some y =>
    simp only [Option.getD_some, Option.isSome_some]
    obtain ⟨hykey, pk, hpk, hfk⟩ := entOf_some he
    obtain ⟨hyp, hy0, hy1⟩ := HPO.out _ _ hfk
    have HWF : Hid ((Lit.int .i64 y.pos).wf = true) := by
      show _ = _
      rw [hyp]
      exact nat_wf (k := secN x.f pk) (by omega)
    have HE := Lib.hid he
    obtain ⟨nf, hnf⟩ : ∃ nf, nf = w1.heap.size := ⟨_, rfl⟩
    have hal2 : Below w1.heap.size w1 (w1.alloc (.cells (cgA y) 170)) := (Below.refl w1.heap.size w1).alloc (Nat.le_refl _) _
    have BY := Lib.hid (Box.new w1 170 (cgA y))
    have HO2 := Lib.hid (HO1.out.keep (fixed_both HP.out (fixed_sc s b x)) hal2)
    have HW2 := Lib.hid (HW1.out.trans (hal2.mono HW1.out.size))
    have HS2 := Lib.hid (HS.out.keep HW2.out)
    have HZ2 : Hid ((w1.alloc (.cells (cgA y) 170)).heap.size = nf + 1) := by show _ = _; rw [size_alloc, hnf]
    rw [← hnf] at BY
    have HNF : Hid (w.heap.size ≤ nf) := by show _ ≤ _; rw [hnf]; exact HW1.out.size
    clear he hykey hpk hfk hyp hy0 hy1 hal2 HO1 HB1 HK1 HZ1 HW1
    go_wp2_with fail
    rw [← hnf]
    clear hnf
    generalize World.alloc w1 _ = w2 at *
    have n3 : w2.cell? ⟨nf, 3, none⟩ = some (.int .i64 y.pos) := BY.out.cell 3 _ rfl
    have k0 : w2.cell? ⟨s, 0, none⟩ = some (.pointer (some ⟨b, 0, none⟩)) := HS2.out.box.cell 0 _ rfl
    have HO2D := Lib.hid (HO2.out.drew (fixed_both HP.out (fixed_sc s b x)))
    go_wp2_with fail
    refine wp_region_tree (fun W => W.cell? ⟨s, 0, none⟩ = some (.pointer (some ⟨b, 0, none⟩)) ∧ W.cell? ⟨nf, 3, none⟩ = some (.int .i64 y.pos)) 12 (.quiet 0 (.quiet 1 (.quiet 2 (.quiet 3 (.quiet 4 (.quiet 5 (.make 6 (.make 7 (.quiet 8 (.quiet 9 (.quiet 10 (.quiet 11 .nil)))))))))))) (by kernel_rfl) (by kernel_rfl) ⟨k0, n3⟩ ?_
    simp only [List.drop_succ_cons, List.drop_zero]
    iterate 6 (apply wpTr_step rfl; (intro W hS K hK; obtain ⟨r1, r2⟩ := hS; go_simp; exact hK _ rfl))
    refine wpTr_make rfl (fun K' hK => ?_)
    go_simp
    refine (fast_any _ y.pos).mono ?_
    rintro e w3 ⟨rfl, hb3⟩
    have hb3' : Below w2.heap.size w2 w3 := (Below.refl _ w2).drew.trans hb3
    have BY3 := Lib.hid (BY.out.keep hb3' BY.out.lt)
    have HS3 := Lib.hid (HS2.out.keep hb3')
    have HO3 := Lib.hid (HO2.out.keep (fixed_both HP.out (fixed_sc s b x)) hb3')
    have HW3 := Lib.hid (HW2.out.trans (hb3'.mono HW2.out.size))
    refine hK _ _ _ (fun _ h => h) ⟨HS3.out.box.cell 0 _ rfl, BY3.out.cell 3 _ rfl⟩ ?_
    clear hK K' hb3 hb3' n3 k0 HO2 HW2 HS2 BY HO2D
    refine wpTr_make rfl (fun K' hK => ?_)
    unfold locV
    go_simp
    refine (one_readS (fixed_both HP.out (fixed_sc s b x)) HO3.out (1, y.pos)).mono ?_
    rintro e w4 ⟨rfl, ho4, hb4⟩
    have BY4 := Lib.hid (BY3.out.keep hb4 BY3.out.lt)
    have HS4 := Lib.hid (HS3.out.keep hb4)
    have HO4 := Lib.hid ho4
    have HW4 := Lib.hid (HW3.out.trans (hb4.mono HW3.out.size))
    refine hK _ _ _ (fun _ h => h) ⟨HS4.out.box.cell 0 _ rfl, BY4.out.cell 3 _ rfl⟩ ?_
    clear hK K' hb4 ho4 BY3 HS3 HO3 HW3
    iterate 4 (apply wpTr_step rfl; (intro W hS K hK; obtain ⟨r1, r2⟩ := hS; go_simp; exact hK _ rfl))
    refine wpTr_nil ?_
    have k1 : w4.cell? ⟨nf, 2, none⟩ = some (.int .i64 y.len) := BY4.out.cell 2 _ rfl
    have k2 : w4.cell? ⟨nf, 1, none⟩ = some (.string y.sum) := BY4.out.cell 1 _ rfl
    have HKK := Lib.hid (HK.out.below (HW4.out.mono HBW.out) HBP.out)
    have HKD := Lib.hid (HKK.out.below ((Below.refl B w4).drew) HBP.out)
    have HTS := HT.out (1, y.pos)
    obtain ⟨t, ht⟩ : ∃ t, t = tellD d (1, y.pos) := ⟨_, rfl⟩
    obtain ⟨c, hc⟩ : ∃ c, c = chkD d (1, y.pos) 0 := ⟨_, rfl⟩
    rw [← ht] at HTS ⊢
    rw [← hc]
    have HTT := Lib.hid ht
    have HCC := Lib.hid hc
    clear ht hc
    have HOF := Lib.hid (of_any t w4.drew HTS HKD.out)
    have n2 := HTS
    by_cases hc0 : c = 0
    · by_cases hl : (t.size : Int) = y.len
      · by_cases hsm : sha t = y.sum
        · have d0 : (c != 0) = false := by simp [hc0]
          have d1 : ((t.size : Int) != y.len) = false := by simp [hl]
          have d2 : ((sha t).toList == y.sum.toList) = true := by rw [hsm]; exact beq_self_eq_true _
          have HRD : Hid (findX d x key = ((t, true), x)) := by
            show _ = _
            rw [HTT.out] at hl hsm ⊢
            exact findX_yes HE.out ⟨by rw [← HCC.out]; exact hc0, hl, hsm⟩
          clear hc0 hl hsm
          go_wp2_with fail
          refine wp_region_tree (fun W => W.cell? ⟨nf, 2, none⟩ = some (.int .i64 y.len) ∧ W.cell? ⟨nf, 1, none⟩ = some (.string y.sum)) 14 (.quiet 0 (.quiet 1 (.quiet 2 (.quiet 3 (.quiet 4 (.quiet 5 (.quiet 6 (.quiet 7 (.quiet 8 (.quiet 9 (.quiet 10 (.quiet 12 (.quiet 13 (.make 11 .nil)))))))))))))) (by kernel_rfl) (by kernel_rfl) ⟨k1, k2⟩ ?_
          simp only [List.drop_succ_cons, List.drop_zero]
          iterate 13 (apply wpTr_step rfl; (intro W hS K hK; obtain ⟨r1, r2⟩ := hS; go_simp; exact hK _ rfl))
          refine wpTr_make rfl (fun K' hK => ?_)
          go_simp
          refine (HOF.out).mono ?_
          rintro e w5 ⟨rfl, hb5⟩
          have hb5' : Below w4.heap.size w4 w5 := (Below.refl _ w4).drew.trans hb5
          have BY5 := Lib.hid (BY4.out.keep hb5' BY4.out.lt)
          have HO5 := Lib.hid (HO4.out.keep (fixed_both HP.out (fixed_sc s b x)) hb5')
          have HW5 := Lib.hid (HW4.out.trans (hb5'.mono HW4.out.size))
          refine hK _ _ _ (fun _ h => h) ⟨BY5.out.cell 2 _ rfl, BY5.out.cell 1 _ rfl⟩ ?_
          clear hK K' hb5 hb5'
          refine wpTr_nil ?_
          clear k1 k2
          go_wp2
          go_ret2
          exact ⟨by rw [HRD.out]; rfl, by rw [HRD.out]; exact HO5.out, HW5.out.mono HBW.out⟩
        · have d0 : (c != 0) = false := by simp [hc0]
          have d1 : ((t.size : Int) != y.len) = false := by simp [hl]
          have d2 : ((sha t).toList == y.sum.toList) = false := by
            rw [beq_eq_false_iff_ne]
            intro e
            apply hsm
            rw [ByteArray.toList_eq, ByteArray.toList_eq] at e
            exact ByteArray.ext (Array.toList_inj.1 e)
          have HNO : Hid (¬ (chkD d (1, y.pos) 0 = 0 ∧ ((tellD d (1, y.pos)).size : Int) = y.len ∧ sha (tellD d (1, y.pos)) = y.sum)) := fun h => hsm (by rw [HTT.out]; exact h.2.2)
          clear hc0 hl hsm
          go_wp2_with fail
          refine wp_region_tree (fun W => W.cell? ⟨nf, 2, none⟩ = some (.int .i64 y.len) ∧ W.cell? ⟨nf, 1, none⟩ = some (.string y.sum)) 14 (.quiet 0 (.quiet 1 (.quiet 2 (.quiet 3 (.quiet 4 (.quiet 5 (.quiet 6 (.quiet 7 (.quiet 8 (.quiet 9 (.quiet 10 (.quiet 12 (.quiet 13 (.make 11 .nil)))))))))))))) (by kernel_rfl) (by kernel_rfl) ⟨k1, k2⟩ ?_
          simp only [List.drop_succ_cons, List.drop_zero]
          iterate 13 (apply wpTr_step rfl; (intro W hS K hK; obtain ⟨r1, r2⟩ := hS; go_simp; exact hK _ rfl))
          refine wpTr_make rfl (fun K' hK => ?_)
          go_simp
          refine (HOF.out).mono ?_
          rintro e w5 ⟨rfl, hb5⟩
          have hb5' : Below w4.heap.size w4 w5 := (Below.refl _ w4).drew.trans hb5
          have BY5 := Lib.hid (BY4.out.keep hb5' BY4.out.lt)
          have HS5 := Lib.hid (HS4.out.keep hb5')
          have HW5 := Lib.hid (HW4.out.trans (hb5'.mono HW4.out.size))
          refine hK _ _ _ (fun _ h => h) ⟨BY5.out.cell 2 _ rfl, BY5.out.cell 1 _ rfl⟩ ?_
          clear hK K' hb5 hb5' BY4
          have BY4 := BY5
          clear BY5
          refine wpTr_nil ?_
          have HRD := Lib.hid (findX_no (d := d) HE.out HNO.out)
          have n3' := BY4.out.cell 3 _ rfl
          have k3' : w5.cell? ⟨s, 3, none⟩ = some (.map (some m)) := HS5.out.box.cell 3 _ rfl
          obtain ⟨D, hown, hDI⟩ := (HS5.out.map.keep (Below.refl _ w5).drew)
          have HDI := Lib.hid hDI
          have HW5D := Lib.hid ((HW5.out).drew)
          clear hDI n2 k1 k2
          go_wp2_with fail
          refine wp_region_tree (fun W => W.cell? ⟨s, 3, none⟩ = some (.map (some m)) ∧ W.cell? ⟨nf, 3, none⟩ = some (.int .i64 y.pos)) 6 (.quiet 0 (.quiet 1 (.quiet 2 (.quiet 3 (.quiet 4 (.quiet 5 .nil)))))) (by kernel_rfl) (by kernel_rfl) ⟨k3', n3'⟩ ?_
          simp only [List.drop_succ_cons, List.drop_zero]
          iterate 6 (apply wpTr_step rfl; (intro W hS K hK; obtain ⟨r1, r2⟩ := hS; go_simp; exact hK _ rfl))
          refine wpTr_nil ?_
          go_wp2_with (first
            | (at_delete; refine wpList_delete_own _ rfl _ _ 156 3 rfl 170 keyedY Tryz.underlying156 _ m x.e.length D rfl hown _ _ rfl (keyOfY HWF.out) ?_; intro w6 hown6 hturn6)
            | go_in)
          have HO6 := Lib.hid hown6
          have HC6 : Hid (Chg [m] w5.drew w6) := Chg.only hturn6.grown
          have HT6 : Hid (Maps.Tidy D) := hown.tidy keyedY
          clear hown hown6 hturn6 k3' n3'
          go_wp2
          go_ret2
          have hmap : EnAt w6 m (forgetS x.e y.pos) := by
            refine ⟨_, ?_, HDI.out.del HT6.out y.pos⟩
            have := sowns_tight HO6.out
            rw [(HDI.out.del HT6.out y.pos).size] at this
            exact this
          have hbox := HS5.out.box.of ((HC6.out.block s HS5.out.box.lt (by simpa using HS5.out.ne)))
          obtain ⟨hone, hbel⟩ := HTO.out w6 { x with e := forgetS x.e y.pos } ((Chg.of HW5D.out (Nat.le_refl _)).trans (HC6.out.mono (by simp))) ⟨hbox, hmap, HS5.out.ne⟩
          exact ⟨by rw [HRD.out]; rfl, by rw [HRD.out]; exact hone, hbel⟩
      · have d0 : (c != 0) = false := by simp [hc0]
        have d1 : ((t.size : Int) != y.len) = true := by simpa using hl
        have HNO : Hid (¬ (chkD d (1, y.pos) 0 = 0 ∧ ((tellD d (1, y.pos)).size : Int) = y.len ∧ sha (tellD d (1, y.pos)) = y.sum)) := fun h => hl (by rw [HTT.out]; exact h.2.1)
        clear hc0 hl
        go_wp2_with fail
        refine wp_region_tree (fun W => W.cell? ⟨nf, 2, none⟩ = some (.int .i64 y.len) ∧ W.cell? ⟨nf, 1, none⟩ = some (.string y.sum)) 14 (.quiet 0 (.quiet 1 (.quiet 2 (.quiet 3 (.quiet 4 (.quiet 5 (.quiet 6 (.quiet 7 (.quiet 8 (.quiet 9 (.quiet 10 (.quiet 12 (.quiet 13 (.make 11 .nil)))))))))))))) (by kernel_rfl) (by kernel_rfl) ⟨k1, k2⟩ ?_
        simp only [List.drop_succ_cons, List.drop_zero]
        iterate 13 (apply wpTr_step rfl; (intro W hS K hK; obtain ⟨r1, r2⟩ := hS; go_simp; exact hK _ rfl))
        refine wpTr_make rfl (fun K' hK => ?_)
        go_simp
        refine hK _ _ _ (fun _ h => h) ⟨k1, k2⟩ ?_
        clear hK K'
        refine wpTr_nil ?_
        have HS5 := Lib.hid (HS4.out.keep (Below.refl _ w4).drew)
        have HW5 := Lib.hid (HW4.out.drew)
        have BY5 : Hid (Box w4.drew nf 170 (cgA y)) := BY4.out
        clear HS4 HW4 BY4 HO4
        have BY4 := BY5
        clear BY5
        generalize w4.drew = w5 at *
        have HRD := Lib.hid (findX_no (d := d) HE.out HNO.out)
        have n3' := BY4.out.cell 3 _ rfl
        have k3' : w5.cell? ⟨s, 3, none⟩ = some (.map (some m)) := HS5.out.box.cell 3 _ rfl
        obtain ⟨D, hown, hDI⟩ := (HS5.out.map.keep (Below.refl _ w5).drew)
        have HDI := Lib.hid hDI
        have HW5D := Lib.hid ((HW5.out).drew)
        clear hDI n2 k1 k2
        go_wp2_with fail
        refine wp_region_tree (fun W => W.cell? ⟨s, 3, none⟩ = some (.map (some m)) ∧ W.cell? ⟨nf, 3, none⟩ = some (.int .i64 y.pos)) 6 (.quiet 0 (.quiet 1 (.quiet 2 (.quiet 3 (.quiet 4 (.quiet 5 .nil)))))) (by kernel_rfl) (by kernel_rfl) ⟨k3', n3'⟩ ?_
        simp only [List.drop_succ_cons, List.drop_zero]
        iterate 6 (apply wpTr_step rfl; (intro W hS K hK; obtain ⟨r1, r2⟩ := hS; go_simp; exact hK _ rfl))
        refine wpTr_nil ?_
        go_wp2_with (first
          | (at_delete; refine wpList_delete_own _ rfl _ _ 156 3 rfl 170 keyedY Tryz.underlying156 _ m x.e.length D rfl hown _ _ rfl (keyOfY HWF.out) ?_; intro w6 hown6 hturn6)
          | go_in)
        have HO6 := Lib.hid hown6
        have HC6 : Hid (Chg [m] w5.drew w6) := Chg.only hturn6.grown
        have HT6 : Hid (Maps.Tidy D) := hown.tidy keyedY
        clear hown hown6 hturn6 k3' n3'
        go_wp2
        go_ret2
        have hmap : EnAt w6 m (forgetS x.e y.pos) := by
          refine ⟨_, ?_, HDI.out.del HT6.out y.pos⟩
          have := sowns_tight HO6.out
          rw [(HDI.out.del HT6.out y.pos).size] at this
          exact this
        have hbox := HS5.out.box.of ((HC6.out.block s HS5.out.box.lt (by simpa using HS5.out.ne)))
        obtain ⟨hone, hbel⟩ := HTO.out w6 { x with e := forgetS x.e y.pos } ((Chg.of HW5D.out (Nat.le_refl _)).trans (HC6.out.mono (by simp))) ⟨hbox, hmap, HS5.out.ne⟩
        exact ⟨by rw [HRD.out]; rfl, by rw [HRD.out]; exact hone, hbel⟩
    · have d0 : (c != 0) = true := by simpa using hc0
      have HNO : Hid (¬ (chkD d (1, y.pos) 0 = 0 ∧ ((tellD d (1, y.pos)).size : Int) = y.len ∧ sha (tellD d (1, y.pos)) = y.sum)) := fun h => hc0 (by rw [HCC.out]; exact h.1)
      clear hc0
      go_wp2_with fail
      refine wp_region_tree (fun W => W.cell? ⟨nf, 2, none⟩ = some (.int .i64 y.len) ∧ W.cell? ⟨nf, 1, none⟩ = some (.string y.sum)) 14 (.quiet 0 (.quiet 1 (.quiet 2 (.quiet 3 (.quiet 4 (.quiet 5 (.quiet 6 (.quiet 7 (.quiet 8 (.quiet 9 (.quiet 10 (.quiet 12 (.quiet 13 (.make 11 .nil)))))))))))))) (by kernel_rfl) (by kernel_rfl) ⟨k1, k2⟩ ?_
      simp only [List.drop_succ_cons, List.drop_zero]
      iterate 13 (apply wpTr_step rfl; (intro W hS K hK; obtain ⟨r1, r2⟩ := hS; go_simp; exact hK _ rfl))
      refine wpTr_make rfl (fun K' hK => ?_)
      go_simp
      refine hK _ _ _ (fun _ h => h) ⟨k1, k2⟩ ?_
      clear hK K'
      refine wpTr_nil ?_
      have HS5 := Lib.hid (HS4.out.keep (Below.refl _ w4).drew)
      have HW5 := Lib.hid (HW4.out.drew)
      have BY5 : Hid (Box w4.drew nf 170 (cgA y)) := BY4.out
      clear HS4 HW4 BY4 HO4
      have BY4 := BY5
      clear BY5
      generalize w4.drew = w5 at *
      have HRD := Lib.hid (findX_no (d := d) HE.out HNO.out)
      have n3' := BY4.out.cell 3 _ rfl
      have k3' : w5.cell? ⟨s, 3, none⟩ = some (.map (some m)) := HS5.out.box.cell 3 _ rfl
      obtain ⟨D, hown, hDI⟩ := (HS5.out.map.keep (Below.refl _ w5).drew)
      have HDI := Lib.hid hDI
      have HW5D := Lib.hid ((HW5.out).drew)
      clear hDI n2 k1 k2
      go_wp2_with fail
      refine wp_region_tree (fun W => W.cell? ⟨s, 3, none⟩ = some (.map (some m)) ∧ W.cell? ⟨nf, 3, none⟩ = some (.int .i64 y.pos)) 6 (.quiet 0 (.quiet 1 (.quiet 2 (.quiet 3 (.quiet 4 (.quiet 5 .nil)))))) (by kernel_rfl) (by kernel_rfl) ⟨k3', n3'⟩ ?_
      simp only [List.drop_succ_cons, List.drop_zero]
      iterate 6 (apply wpTr_step rfl; (intro W hS K hK; obtain ⟨r1, r2⟩ := hS; go_simp; exact hK _ rfl))
      refine wpTr_nil ?_
      go_wp2_with (first
        | (at_delete; refine wpList_delete_own _ rfl _ _ 156 3 rfl 170 keyedY Tryz.underlying156 _ m x.e.length D rfl hown _ _ rfl (keyOfY HWF.out) ?_; intro w6 hown6 hturn6)
        | go_in)
      have HO6 := Lib.hid hown6
      have HC6 : Hid (Chg [m] w5.drew w6) := Chg.only hturn6.grown
      have HT6 : Hid (Maps.Tidy D) := hown.tidy keyedY
      clear hown hown6 hturn6 k3' n3'
      go_wp2
      go_ret2
      have hmap : EnAt w6 m (forgetS x.e y.pos) := by
        refine ⟨_, ?_, HDI.out.del HT6.out y.pos⟩
        have := sowns_tight HO6.out
        rw [(HDI.out.del HT6.out y.pos).size] at this
        exact this
      have hbox := HS5.out.box.of ((HC6.out.block s HS5.out.box.lt (by simpa using HS5.out.ne)))
      obtain ⟨hone, hbel⟩ := HTO.out w6 { x with e := forgetS x.e y.pos } ((Chg.of HW5D.out (Nat.le_refl _)).trans (HC6.out.mono (by simp))) ⟨hbox, hmap, HS5.out.ne⟩
      exact ⟨by rw [HRD.out]; rfl, by rw [HRD.out]; exact hone, hbel⟩
end
end Go.Proofs.YtphhnhldbajaoaaGreatDoor
