/-
  Texts put together: CgRows, SeF.
-/
import Derived.Test.YtphhnhldbajaoaaGreatDoorMg16
import Derived.Test.YtphhnhldbajaoaaGreatDoorMg0
import Derived.Test.YtphhnhldbajaoaaGreatDoorMg1
import Derived.Deep.RegionLaw
import Derived.Maps.AppendAt
import Derived.Deep.Upon
import Derived.Test.YtphhnhldbajaoaaGreatDoorSeE
import Derived.OwnWalkIn
import Derived.Deep.DeepMust
namespace Go.Proofs.YtphhnhldbajaoaaGreatDoor
open Go.RowKit Go.ChangeShapes Go.WideShapes Go.ChangeAt

/-- A type of entries. -/
def Four (e : TypeId) : Prop := (Tryz.prog.info? e).map (fun i => (i.zero, i.size, i.bytes)) = some (some (.agg #[.string ⟨#[]⟩, .string ⟨#[]⟩, .int .i64 0, .int .i64 0]), 4, 48)
theorem four_C : Four 170 := by unfold Four; kernel_rfl
theorem SlC.nil {w : World} : SlC w none [] := fun h => absurd rfl h

/-- The value v is a slice of the call's own that holds the entries l. -/
def Cgs (e : TypeId) (w : World) (base : Nat) (v : Value) (l : List CgE) : Prop := w.ownsRow base e 4 v l.length (l.flatMap cgL)
theorem Cgs.nil (e : TypeId) (w : World) (base : Nat) : Cgs e w base (.slice none 0 0) [] := World.ownsRow_nil _ _ _ _
theorem Cgs.base {e : TypeId} {w : World} {b b' : Nat} {v : Value} {l : List CgE} (h : Cgs e w b v l) (hb : b' ≤ b) : Cgs e w b' v l := by
  refine ⟨h.1, ?_⟩
  rcases h.2 with h | ⟨g, cap, cur, h1, h2, h3⟩
  · exact .inl h
  · exact .inr ⟨g, cap, cur, h1, Nat.le_trans hb h2, h3⟩
theorem Cgs.keep {e : TypeId} {w w' : World} {base : Nat} {v : Value} {l : List CgE} (h : Cgs e w base v l) (hb : Below w.heap.size w w') : Cgs e w' base v l :=
  ownsRow_of h fun k _ hlt => hb.block k hlt
theorem Cgs.view {e : TypeId} {w : World} {base : Nat} {v : Value} {l : List CgE} (h : Cgs e w base v l) : ∃ a cap, v = .slice a l.length cap ∧ SlC w a l := by
  have h' := h
  rcases h.2 with ⟨rfl, h0⟩ | ⟨g, cap, cur, rfl, hg, hh, _⟩
  · have : l = [] := List.eq_nil_of_length_eq_zero h0
    subst this
    exact ⟨none, 0, rfl, SlC.nil⟩
  · refine ⟨some ⟨g, 0, none⟩, cap, rfl, fun _ => ⟨g, 0, rfl, lt_of_block hh, fun i x hx j u hj => ?_⟩⟩
    have hi : i < l.length := (List.getElem?_eq_some_iff.1 hx).1
    have hj4 : j < 4 := (List.getElem?_eq_some_iff.1 hj).1
    have h0 := flat_get cgL 4 (fun _ => rfl) l i x hx j hj4
    rw [Nat.zero_add, World.ownsRow.cellAt h' (i * 4 + j) (by omega), h0]
    exact hj
theorem Cgs.own_blk {e : TypeId} {w : World} {base : Nat} {v : Value} {l : List CgE} (h : Cgs e w base v l) : ∀ k, v.ownBlock = some k → base ≤ k ∧ k < w.heap.size := fun k hk => World.ownsRow.lt h k hk
/-- 'append(out, x)' of an entry that lies in a box of its own. -/
theorem wp_cgs_push {t e : TypeId} (ht : Tryz.prog.underlying t = some (.slice e)) (he : Four e) {ops : Array Oper} {rest : List Oper} {o : Oper} {a : Act} {Q : Exit → Act → World → Prop} (W : World) (hgd : o.guard = none) (s x : Operand)
    (ho : o.op = .call { callee := .builtin .append, args := #[s, x], argTypes := #[t, t] })
    (base : Nat) (v : Value) (l : List CgE) (hs : a.eval s = v) (hb : Cgs e W base v l)
    (g c : Nat) (p : CgE) (hx : a.eval x = .slice (some ⟨g, 0, none⟩) 1 c) (hcell : ∀ j u, (cgL p)[j]? = some u → W.cell? ⟨g, j, none⟩ = some u)
    (hbytes : l.length + 1 ≤ 100000) (hbase : base ≤ W.heap.size)
    (h : ∀ v' w', Cgs e w' base v' (l ++ [p]) → W.grownBy w' v.ownBlock → (v'.ownBlock = v.ownBlock ∨ v'.ownBlock = some W.heap.size) → wpList Tryz.prog ops Q rest (a.put o.dst v') w') : wpList Tryz.prog ops Q (o :: rest) a W := by
  obtain ⟨i0, hi, hz0, hz1, hz2⟩ := info_parts he
  obtain ⟨v', w', hr, hown, hg, _, hob⟩ := run_append_own_at (P := Tryz.prog) W base t o.type e i0 (.agg #[.string ⟨#[]⟩, .string ⟨#[]⟩, .int .i64 0, .int .i64 0]) 4 48 ht hi hz0 hz1 hz2 rfl (by decide) v l.length _ hb ⟨g, 0, none⟩ 1 c (cgL p) rfl
    (fun j u hj => by
      rw [add_plain, Nat.zero_add]
      exact hcell j u hj) (by
      intro u hu
      simp only [cgL, List.mem_cons, List.not_mem_nil, or_false] at hu
      rcases hu with rfl | rfl | rfl | rfl <;> rfl) (by unfold maxLen; omega) (by omega) hbase
  refine wpList_plain hgd fun K hK => ?_
  unfold Oper.wp execOp
  simp only [ho, resolve, invoke, builtin, Sem.run_bind, Sem.run_pure, Result.andThen_ok, List.map_toArray, List.map_cons, List.map_nil, hs, hx, hr]
  refine hK _ _ (h v' w' ?_ hg hob)
  unfold Cgs
  rw [List.flatMap_append, List.length_append, List.flatMap_cons, List.flatMap_nil, List.append_nil]
  exact hown
theorem below_cgs {w w' : World} {base : Nat} {e : TypeId} {v : Value} {l : List CgE} {a : World} (h : Below base a w) (hg : w.grownBy w' v.ownBlock) (hr : Cgs e w base v l) (hb : base ≤ w.heap.size) : Below base a w' :=
  h.grown hg hb fun k hk => (World.ownsRow.lt hr k hk).1
end Go.Proofs.YtphhnhldbajaoaaGreatDoor

namespace Go.Proofs.YtphhnhldbajaoaaGreatDoor
open Go Go.RowKit Go.Shelf Go.ChangeShapes Go.WideShapes Go.ChangeAt

attribute [local go_sem] Oper.semAt_some

/-- What lies in the walk's own blocks, but block c. -/
def SameBut (g n c : Nat) (X W : World) : Prop := n ≤ W.heap.size ∧ ∀ i, i < n → g ≤ i → i ≠ c → W.heap[i]? = X.heap[i]?
theorem SameBut.keep {g n c : Nat} {X W W' : World} (h : SameBut g n c X W) (hb : Below W.heap.size W W') : SameBut g n c X W' :=
  ⟨Nat.le_trans h.1 hb.size, fun i hi hg hc => (hb.block i (Nat.lt_of_lt_of_le hi h.1)).trans (h.2 i hi hg hc)⟩
theorem SameBut.put {g n c : Nat} {X W : World} (h : SameBut g n c X W) (r : Nat) (o : Obj) (hr : n ≤ r) : SameBut g n c X (W.putObj r o) :=
  ⟨Nat.le_trans h.1 (putObj_os _ _ _), fun i hi hg hc => (World.putObj_heap_other (by omega)).trans (h.2 i hi hg hc)⟩
theorem SameBut.box {g n c b : Nat} {X W : World} {t : TypeId} {cs : Array Value} (h : SameBut g n c X W) (hx : Box X b t cs) (h1 : b < n) (h2 : g ≤ b) (h3 : b ≠ c) : Box W b t cs := hx.of (h.2 b h1 h2 h3)

theorem Cgs.put {e : TypeId} {w : World} {base r : Nat} {v : Value} {l : List CgE} (h : Cgs e w base v l) (o : Obj) (hr : r < base) : Cgs e (w.putObj r o) base v l :=
  ownsRow_of h fun k hk _ => World.putObj_heap_other (by have := h.own_blk k hk; omega)
theorem Cgs.set {e : TypeId} {w : World} {base r j : Nat} {v u : Value} {l : List CgE} (h : Cgs e w base v l) (hr : r < base) : Cgs e (w.setCell ⟨r, j, none⟩ u) base v l :=
  ownsRow_of h fun k hk _ => heap_setCell_other w ⟨r, j, none⟩ k u (by have := h.own_blk k hk; show k ≠ r; omega)

/-- 'append(out, x)' in a round. -/
theorem wpListIn_cgs_push {F : Fence} {n : Nat} {t e : TypeId} (ht : Tryz.prog.underlying t = some (.slice e)) (he : Four e) {ops : Array Oper} {rest : List Oper} {o : Oper} {a : Act} {Q : Exit → Act → World → Prop} (W : World) (hgd : o.guard = none) (s x : Operand)
    (ho : o.op = .call { callee := .builtin .append, args := #[s, x], argTypes := #[t, t] })
    (base : Nat) (v : Value) (l : List CgE) (hs : a.eval s = v) (hb : Cgs e W base v l)
    (g c : Nat) (p : CgE) (hx : a.eval x = .slice (some ⟨g, 0, none⟩) 1 c) (hcell : ∀ j u, (cgL p)[j]? = some u → W.cell? ⟨g, j, none⟩ = some u)
    (hbytes : l.length + 1 ≤ 100000) (hbase : base ≤ W.heap.size)
    (h : ∀ b' cap w', Cgs e w' base (.slice b' (l.length + 1) cap) (l ++ [p]) → W.grownBy w' v.ownBlock → wpListIn F n Tryz.prog ops Q rest (a.put o.dst (.slice b' (l.length + 1) cap)) w') : wpListIn F n Tryz.prog ops Q (o :: rest) a W := by
  obtain ⟨i0, hi, hz0, hz1, hz2⟩ := info_parts he
  refine wpListIn_append_own W hgd s x t ho base e i0 (.agg #[.string ⟨#[]⟩, .string ⟨#[]⟩, .int .i64 0, .int .i64 0]) 4 48 ht hi hz0 hz1 hz2 rfl (by decide) v l.length _ hs hb ⟨g, 0, none⟩ 1 c (cgL p) hx rfl
    (fun j u hj => by
      rw [add_plain, Nat.zero_add]
      exact hcell j u hj) (by
      intro u hu
      simp only [cgL, List.mem_cons, List.not_mem_nil, or_false] at hu
      rcases hu with rfl | rfl | rfl | rfl <;> rfl) (by unfold maxLen; omega) (by omega) hbase ?_
  intro v' w' hown hg _
  have hC : Cgs e w' base v' (l ++ [p]) := by
    unfold Cgs
    rw [List.flatMap_append, List.length_append, List.flatMap_cons, List.flatMap_nil, List.append_nil]
    exact hown
  obtain ⟨b', cap, rfl, _⟩ := hC.view
  rw [List.length_append] at hC ⊢
  exact h b' cap w' hC hg

def AmJ (w X : World) (g z : Nat) (x : SecD) (fr k : Nat) (W : World) : Prop := Below g w W ∧ SameBut g (g + 5) (g + 1) X W ∧ ∃ v, Box W (g + 1) 185 #[v] ∧ Cgs 170 W (z + 2) v (amongK x.e x.f fr k)

set_option maxRecDepth 100000 in
set_option maxHeartbeats 2000000 in
theorem among_in (s b m : Nat) (x : SecD) (w : World) (h : SecAt w s b m x) (hx : x.f ≤ 512) (hn : x.n ≤ 512) (fr tu : Nat) (hfr : fr ≤ 1000) (hto : tu ≤ 1000) :
    CallsIn Fence.wide 6 Tryz.prog 146 #[.pointer (some ⟨s, 0, none⟩), .int .i64 fr, .int .i64 tu] w fun e w' => ∃ v, e = .returned v ∧ Cgs 170 w' w.heap.size v (amongK x.e x.f fr (min tu (roomN x.n))) ∧ Below w.heap.size w w' := by
  have B0 := Box.new w 90 #[.pointer (some ⟨s, 0, none⟩)]
  have B1 := Box.new (w.alloc (.cells #[.pointer (some ⟨s, 0, none⟩)] 90)) 185 #[.slice none 0 0]
  simp only [size_alloc] at B1
  have hb0 : Below w.heap.size w ((w.alloc (.cells #[.pointer (some ⟨s, 0, none⟩)] 90)).alloc (.cells #[.slice none 0 0] 185)) := ((Below.refl _ w).alloc (Nat.le_refl _) _).alloc (by rw [size_alloc]; omega) _
  have HB0 := Lib.hid hb0
  have HA1 := Lib.hid B1
  have HA0 := Lib.hid (B0.alloc (.cells #[.slice none 0 0] 185))
  have HS := Lib.hid h
  have HX := Lib.hid hx
  have HN := Lib.hid hn
  have HFT := Lib.hid (And.intro hfr hto)
  have a0 := HA0.out.cell 0 _ rfl
  clear h hx hn hfr hto B0 B1 hb0
  refine callsIn_of_wp_marks Tryz.func146 rfl trivial ?_ rfl
  simp only [Tryz.ntmps146, List.size_toArray, List.length_cons, List.length_nil, Nat.reduceAdd, Nat.reduceSub, Array.replicate_succ, Array.replicate_zero, List.push_toArray, List.append_toArray, List.nil_append, List.cons_append]
  gi_wp2_with fail
  refine ⟨trivial, ?_⟩
  generalize hW1 : (w.alloc (.cells #[.pointer (some ⟨s, 0, none⟩)] 90)).alloc (.cells #[.slice none 0 0] 185) = W1 at *
  have hz1 : W1.heap.size = w.heap.size + 2 := by rw [← hW1]; simp only [size_alloc]
  clear hW1
  refine (callsIn_wide.2 (places_any _ _ _ _)).mono ?_
  rintro e X ⟨rfl, hb, bs, b4, b5⟩
  rw [hz1] at hb bs b4 b5 ⊢
  obtain ⟨g, hg⟩ : ∃ g, g = w.heap.size := ⟨_, rfl⟩
  rw [← hg] at HB0 HA0 HA1 hz1 hb bs b4 b5 ⊢
  have HG := Lib.hid hg
  have R0 := Lib.hid (HA0.out.keep hb (by omega))
  have R1 := Lib.hid (HA1.out.keep hb (by omega))
  have HBX := Lib.hid (HB0.out.trans (hb.mono (by omega)))
  have HBS := Lib.hid bs
  have HB4 := Lib.hid b4
  have HB5 := Lib.hid b5
  clear hb bs b4 b5 HB0 HA0 HA1 a0 hz1 hg
  simp only [Nat.add_assoc, Nat.reduceAdd] at *
  obtain ⟨z, hz⟩ : ∃ z, z = X.heap.size := ⟨_, rfl⟩
  have HZ : Hid (z = X.heap.size ∧ g + 5 ≤ z) := ⟨hz, by rw [hz]; exact HB5.out.lt⟩
  have HL0 : Hid (SameBut g (g + 5) (g + 1) X X) := ⟨by rw [← hz]; exact HZ.out.2, fun _ _ _ _ => rfl⟩
  clear hz
  gi_wp2_with fail
  refine range_by (gf := 162) (lb := #[.pointer (some ⟨g + 3, 0, none⟩), .pointer (some ⟨g + 4, 0, none⟩), .pointer (some ⟨g + 2, 0, none⟩)]) (by decide) rfl (enters_of Tryz.func162 (by kernel_rfl) rfl)
    fr (min tu (roomN x.n)) (fun k => #[.int .i64 (secN x.f k)]) (fun _ => rfl) (fun W => Below g w W ∧ SameBut g (g + 5) (g + 1) X W)
    (fun l J Jx W hgd hbl hyy h0 => ?iter) (AmJ w X g z x fr) (fun _ => False) (fun k W h => ⟨h.1, h.2.1⟩) ?jb ?jp (fun _ _ h _ => h.elim) ⟨HBX.out, HL0.out, _, R1.out, by rw [amongK_none _ _ _ _ (Nat.le_refl _)]; exact Cgs.nil _ _ _⟩ ?body ?fin (fun _ h _ _ => h.elim)
  case iter =>
    have hB : ∀ W, Below g w W → Box W s 158 (secC b m x) := fun W hb => HS.out.box.keep hb (by rw [HG.out]; exact HS.out.box.lt)
    have hr1 : roomN x.n ≤ 1000 := Nat.le_trans (room_le _) (Nat.le_trans HN.out (by decide))
    refine places_iter 5 l (g + 2) (g + 3) (g + 4) (by decide) (some ⟨s, 0, none⟩) fr tu (roomN x.n) HFT.out.2 HFT.out.1 hr1 (secN x.f) _ ?_ ?_ ?_ J Jx W hgd hbl hyy h0
    · rintro W ⟨hb, hl⟩
      exact ⟨hl.box HBS.out (by omega) (by omega) (by omega), hl.box HB4.out (by omega) (by omega) (by omega), hl.box HB5.out (by omega) (by omega) (by omega)⟩
    · rintro W ⟨hb, hl⟩
      exact room_any s b m x W (hB W hb) HN.out
    · rintro W k ⟨hb, hl⟩ h1 h2
      exact sector_any s b m x W k (hB W hb) HX.out (by have := HFT.out.2; omega)
  case jb =>
    rintro k W W' ⟨hb, hl, v, hv, hc⟩ hbb
    exact ⟨hb.trans (hbb.mono (by have := hl.1; omega)), hl.keep hbb, v, hv.keep hbb hv.lt, hc.keep hbb⟩
  case jp =>
    rintro k W o ⟨hb, hl, v, hv, hc⟩ hs
    have := HZ.out
    exact ⟨below_put hb (by rw [HG.out]; exact Nat.le_refl _) _ _ (by omega), hl.put _ _ (by omega), v, hv.of (World.putObj_heap_other (by omega)), hc.put _ (by omega)⟩
  case body =>
    rintro k W h1 h2 ⟨hb, hl, v, hv, hc⟩ hs
    have HB := Lib.hid hb
    have HL := Lib.hid hl
    have HV := Lib.hid hv
    have HC := Lib.hid hc
    have HK := Lib.hid (And.intro h1 h2)
    rw [← HZ.out.1] at hs ⊢
    have HSZ := Lib.hid hs
    clear hb hl hv hc h1 h2 hs
    gi_wp2_with fail
    intro o
    have hzz := HZ.out.2
    have hb1 := below_put (o := o) HB.out (by rw [HG.out]; exact Nat.le_refl _) (z + 1) (by omega)
    have hl1 := HL.out.put (z + 1) o (by omega)
    have hv1 : Box (W.putObj (z + 1) o) (g + 1) 185 #[v] := HV.out.of (World.putObj_heap_other (by omega))
    have hc1 := HC.out.put (r := z + 1) o (by omega)
    have hd1 : (W.putObj (z + 1) o).heap[z]? = W.heap[z]? := World.putObj_heap_other (by omega)
    have hs1 := putObj_os W (z + 1) o
    obtain ⟨r1, hr1⟩ : ∃ r1, r1 = (W.putObj (z + 1) o).heap[z + 1]? := ⟨_, rfl⟩
    rw [← hr1]
    generalize W.putObj (z + 1) o = W1 at *
    have HB1 := Lib.hid hb1
    have HL1 := Lib.hid hl1
    have HV1 := Lib.hid hv1
    have HC1 := Lib.hid hc1
    have HD1 := Lib.hid hd1
    have HS1 := Lib.hid hs1
    have HR1 := Lib.hid hr1
    have a0 : W1.cell? ⟨g, 0, none⟩ = some (.pointer (some ⟨s, 0, none⟩)) := (HL1.out.box R0.out (by omega) (by omega) (by omega)).cell 0 _ rfl
    have hsa : SecAt W1 s b m x := HS.out.keep (by rw [← HG.out]; exact HB1.out)
    have a3 : W1.cell? ⟨s, 3, none⟩ = some (.map (some m)) := hsa.box.cell 3 _ rfl
    have hkw : (Lit.int .i64 ((secN x.f k : Nat) : Int)).wf = true := by
      have h1 : secN x.f k < x.f + x.n := secN_lt (by have := HK.out.2; omega)
      have := HX.out
      have := HN.out
      exact nat_wf (by omega)
    have hlook := slook_ok hsa.map hkw
    clear hb1 hl1 hv1 hc1 hd1 hs1 hr1 hsa hzz
    cases hf : findS x.e (secN x.f k : Int) with
    | none =>
      rw [hf] at hlook
      simp only [Option.isSome_none] at hlook
      have HF := Lib.hid hf
      clear hf hkw
      gi_wp2
      have hzz := HZ.out
      have hal : Below W1.heap.size W1 (W1.alloc (.cells #[.string ⟨#[]⟩, .string ⟨#[]⟩, .int .i64 0, .int .i64 0] 170)) := (Below.refl _ _).alloc (Nat.le_refl _) _
      have hsz := HS1.out
      have hss := HSZ.out
      refine ⟨by omega, ?_, ?_, HB1.out.trans (hal.mono (by have := HL1.out.1; omega)), HL1.out.keep hal, v, HV1.out.keep hal HV1.out.lt, ?_⟩
      · rw [HR1.out]; exact hal.block _ (by omega)
      · rw [← HD1.out]; exact hal.block _ (by omega)
      · rw [amongK_succ _ _ _ _ HK.out.1, HF.out]
        simp only [Option.toList_none, List.append_nil]
        exact HC1.out.keep hal
    | some y =>
      rw [hf] at hlook
      simp only [Option.isSome_some] at hlook
      have HF := Lib.hid hf
      have HAL : Hid (Below W1.heap.size W1 (W1.alloc (.cells (cgA y) 170))) := (Below.refl _ _).alloc (Nat.le_refl _) _
      have HSA : Hid ((W1.alloc (.cells (cgA y) 170)).heap.size = W1.heap.size + 1) := size_alloc _ _
      have BN := Lib.hid (Box.new W1 170 (cgA y))
      have HV2 := Lib.hid (HV1.out.keep HAL.out HV1.out.lt)
      have HC2 := Lib.hid (HC1.out.keep HAL.out)
      have HB2 := Lib.hid (HB1.out.trans (HAL.out.mono (by have := HL1.out.1; omega)))
      have HL2 := Lib.hid (HL1.out.keep HAL.out)
      have HR2 : Hid ((W1.alloc (.cells (cgA y) 170)).heap[z + 1]? = r1) := by show _ = _; rw [HR1.out]; exact HAL.out.block _ (by have := HSZ.out; have := HS1.out; omega)
      have HD2 : Hid ((W1.alloc (.cells (cgA y) 170)).heap[z]? = W.heap[z]?) := by show _ = _; rw [← HD1.out]; exact HAL.out.block _ (by have := HSZ.out; have := HS1.out; omega)
      have HLE := amongK_len x.e x.f fr k
      have HLB : Hid ((amongK x.e x.f fr k).length + 1 ≤ 100000) := by show _ ≤ _; have := HK.out.2; have := HFT.out.2; omega
      have HSU := Lib.hid (amongK_succ x.e x.f fr k HK.out.1)
      rw [HF.out, Option.toList_some] at HSU
      have n0 := BN.out.cell 0 _ rfl
      have n1 := BN.out.cell 1 _ rfl
      have n2 := BN.out.cell 2 _ rfl
      have n3 := BN.out.cell 3 _ rfl
      have v0 := HV2.out.cell 0 _ rfl
      obtain ⟨nl, hnl⟩ : ∃ nl, nl = amongK x.e x.f fr k := ⟨_, rfl⟩
      rw [← hnl] at HC2 HLB HSU
      clear hf hkw HLE hnl
      obtain ⟨Wb, hWb⟩ : ∃ Wb, Wb = (W1.alloc (.cells #[.string y.key, .string y.sum, .int .i64 y.len, .int .i64 y.pos] 170)).alloc (.cells #[.string y.key, .string y.sum, .int .i64 y.len, .int .i64 y.pos] 170) := ⟨_, rfl⟩
      have HAB : Hid (Below (W1.heap.size + 1) (W1.alloc (.cells (cgA y) 170)) Wb) := by rw [hWb]; exact (Below.refl _ _).alloc (by rw [size_alloc]; omega) _
      have HCB : Hid (Cgs 170 Wb (z + 2) v nl) := HC2.out.keep (by rw [HSA.out]; exact HAB.out)
      have HVB : Hid (Box Wb (g + 1) 185 #[v]) := HV2.out.keep HAB.out (by have := HL1.out.1; omega)
      have HBB : Hid (Below g w Wb) := HB2.out.trans (HAB.out.mono (by have := HL1.out.1; omega))
      have HLB2 : Hid (SameBut g (g + 5) (g + 1) X Wb) := HL2.out.keep (by rw [HSA.out]; exact HAB.out)
      have HRB : Hid (Wb.heap[z + 1]? = r1) := by show _ = _; rw [← HR2.out]; exact HAB.out.block _ (by have := HSZ.out; have := HS1.out; omega)
      have HDB : Hid (Wb.heap[z]? = W.heap[z]?) := by show _ = _; rw [← HD2.out]; exact HAB.out.block _ (by have := HSZ.out; have := HS1.out; omega)
      have BNB : Hid (Box Wb (W1.heap.size + 1) 170 (cgA y)) := by
        have := Box.new (W1.alloc (.cells (cgA y) 170)) 170 (cgA y)
        rw [HSA.out] at this
        rw [hWb]; exact this
      have HSB : Hid (W.heap.size ≤ Wb.heap.size ∧ z + 2 ≤ W.heap.size) := ⟨by have := HAB.out.size; have := HS1.out; rw [HSA.out] at *; omega, HSZ.out⟩
      have HWB := Lib.hid hWb
      clear hWb HC1 HC2 HV1 HV2 HB1 HB2 HL1 HL2 HR1 HR2 HD1 HD2 HS1 HSZ HC HV HB HL HAL BN HAB
      gi_wp2_with (gi_at_builtin; go_must (rw [← HWB.out]; refine wpListIn_cgs_push Tryz.underlying185 four_C Wb rfl _ _ rfl (z + 2) v nl rfl HCB.out (W1.heap.size + 1) 1 y rfl (fun j u hj => BNB.out.cell j u (by simpa [cgL] using hj)) HLB.out (by have := HSB.out; omega) ?_; intro b' cap w5 hC5 hg5; have hv5 : Box w5 (g + 1) 185 #[v] := HVB.out.of (hg5.block _ HVB.out.lt (fun e => by have := HCB.out.own_blk _ e.symm; have := HZ.out.2; omega)); have e0 := hv5.cell 0 _ rfl; have e1 := hv5.free 0; have HC5 := Lib.hid hC5; have HG5 := Lib.hid hg5; have HV5 := Lib.hid hv5; clear hC5 hg5 hv5))
      have hzz := HZ.out.2
      have hsb := HSB.out
      have hg5 := HG5.out
      have ho := Only.set (g + 1) 0 w5 (.slice b' (nl.length + 1) cap)
      have hne : ∀ k, g + 1 ≠ k → (w5.setCell ⟨g + 1, 0, none⟩ (.slice b' (nl.length + 1) cap)).heap[k]? = w5.heap[k]? := fun k hk => heap_setCell_other w5 ⟨g + 1, 0, none⟩ k _ (by show k ≠ g + 1; omega)
      have hgo : ∀ k, k < z + 2 → w5.heap[k]? = Wb.heap[k]? := fun k hk => hg5.block k (by omega) (fun e => by have := HCB.out.own_blk _ e.symm; omega)
      refine ⟨by have := hg5.size; omega, ?_, ?_, ?_, ⟨?_, ?_⟩, _, HV5.out.set 0 _, ?_⟩
      · rw [hne _ (by omega), hgo _ (by omega)]; exact HRB.out
      · rw [hne _ (by omega), hgo _ (by omega)]; exact HDB.out
      · exact (HBB.out.grown hg5 (by omega) (fun k hk => by have := HCB.out.own_blk k hk; omega)).trans (ho.below' (by omega) (by have := hg5.size; omega))
      · have := hg5.size; have := ho.size; omega
      · intro i hi h1 h2
        rw [hne _ (by omega), hgo _ (by omega)]
        exact HLB2.out.2 i hi h1 h2
      · rw [HSU.out]
        have := HC5.out.set (r := g + 1) (j := 0) (u := .slice b' (nl.length + 1) cap) (by omega)
        exact this
  case fin =>
    rintro W ⟨hb, hl, v, hv, hc⟩ hs hd
    have hc2 : Cgs 170 W (z + 2) v (amongK x.e x.f fr (min tu (roomN x.n))) := by
      by_cases h : fr ≤ min tu (roomN x.n)
      · rw [Nat.max_eq_right h] at hc; exact hc
      · rw [Nat.max_eq_left (by omega)] at hc
        rw [amongK_none _ _ _ _ (by omega)]
        rwa [amongK_none _ _ _ _ (Nat.le_refl _)] at hc
    have HB := Lib.hid hb
    have HL := Lib.hid hl
    have HV := Lib.hid hv
    have HC := Lib.hid hc2
    rw [← HZ.out.1] at hd ⊢
    have HD := Lib.hid hd
    have v0 := hv.cell 0 _ rfl
    clear hb hl hc hs hd hv hc2
    obtain ⟨b', cap, rfl, _⟩ := HC.out.view
    gi_wp2
    have hzz := HZ.out
    refine ⟨by simp, .inl ⟨_, _, rfl, run_takeDeferred HD.out, ?_⟩⟩
    refine ⟨_, results_tmp rfl _ _ _, ?_⟩
    refine ⟨_, rfl, (HC.out.put (r := z) _ (by omega)).base (by rw [← HG.out]; omega), ?_⟩
    rw [← HG.out]
    exact below_put HB.out (by rw [HG.out]; exact Nat.le_refl _) _ _ (by omega)

theorem among_any (s b m : Nat) (x : SecD) (w : World) (h : SecAt w s b m x) (hx : x.f ≤ 512) (hn : x.n ≤ 512) (fr tu : Nat) (hfr : fr ≤ 1000) (hto : tu ≤ 1000) :
    Calls Tryz.prog 146 #[.pointer (some ⟨s, 0, none⟩), .int .i64 fr, .int .i64 tu] w fun e w' => ∃ v, e = .returned v ∧ Cgs 170 w' w.heap.size v (amongK x.e x.f fr (min tu (roomN x.n))) ∧ Below w.heap.size w w' :=
  callsIn_wide.1 (among_in s b m x w h hx hn fr tu hfr hto)
theorem entryof_any (s b m : Nat) (x : SecD) (key : ByteArray) (w : World) (h : SecAt w s b m x) (hx : x.f ≤ 512) (hn : x.n ≤ 512) :
    Calls Tryz.prog 123 #[.pointer (some ⟨s, 0, none⟩), .string key] w fun e w' => e = .returned (.tuple #[cgV ((entOf x key).getD noE), .bool (entOf x key).isSome]) ∧ Below w.heap.size w w' :=
  callsIn_wide.1 (entryof_in s b m x key w h hx hn)
theorem isplace_any (s b m : Nat) (x : SecD) (w : World) (h : Box w s 158 (secC b m x)) (hx : x.f ≤ 512) (hn : x.n ≤ 512) (fr : Nat) (hfr : fr ≤ 900) (v : Int) :
    Calls Tryz.prog 153 #[.pointer (some ⟨s, 0, none⟩), .int .i64 fr, .int .i64 v] w fun e w' => e = .returned (.bool (isPl x.f x.n fr v)) ∧ Below w.heap.size w w' :=
  callsIn_wide.1 (isplace_in s b m x w h hx hn fr hfr v)
end Go.Proofs.YtphhnhldbajaoaaGreatDoor
