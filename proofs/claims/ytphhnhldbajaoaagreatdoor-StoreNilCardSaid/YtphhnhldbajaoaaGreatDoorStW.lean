/-
  Package store: Open.
-/
import Derived.Test.YtphhnhldbajaoaaGreatDoorMg41
namespace Go.Proofs.YtphhnhldbajaoaaGreatDoor
open Go Go.RowKit Go.ChangeShapes Go.WideShapes Go.ChangeAt

/-- A store ahead of Settle. -/
def st0 (d : DevD) (pol : PolD) : StD := { d := d, pol := pol, txg := 0, u0 := [], u1 := [], a := arcO pol.arc, L := [], c := none, h0 := 0, h1 := 0, h2 := 0 }
def pt0 (db : Nat) (av : Value) (m : Nat) : StP := ⟨db, .slice none 0 0, .slice none 0 0, av, m, .pointer none⟩
theorem SlP.chg {w w1 W : World} {a : Option Addr} {l : List (Int × Int)} {s : Nat} (h : SlP w a l) (hb : Below w.heap.size w w1) (hs : w.heap.size ≤ s) (hc : Chg [s] w1 W) : SlP W a l := fun hne => by
  obtain ⟨b, off, e, hlt, hx⟩ := h hne
  have h1 : W.heap[b]? = w.heap[b]? := (hc.block b (Nat.lt_of_lt_of_le hlt hb.size) (by simp; omega)).trans (hb.block b hlt)
  exact ⟨b, off, e, Nat.lt_of_lt_of_le hlt (Nat.le_trans hb.size hc.size), fun i x hi => ⟨(World.cell?_of_block (a := ⟨b, _, none⟩) h1).trans (hx i x hi).1, (World.cell?_of_block (a := ⟨b, _, none⟩) h1).trans (hx i x hi).2⟩⟩
section
variable {B : Nat} {l : List (List Nat → World → Prop)} {w : World}
theorem own_made {d : DevD} {pol : PolD} {db m sb : Nat} {av : Value} {Q : List Nat → World → Prop} (hl : AllF l) (_hQ : Fixed Q) (h : Own B (BoxP sb 93 (stV (pt0 db av m) (st0 d pol)).cells :: MapF m [] :: ArcO av (arcO pol.arc) :: Q :: DevF db d :: l) w) : Own B (stL sb (pt0 db av m) (st0 d pol) ++ l) w := by
  have h1 : Own B (BoxP sb 93 (stV (pt0 db av m) (st0 d pol)).cells :: MapF m [] :: ArcO av (arcO pol.arc) :: DevF db d :: l) w := h.subl (.cons_cons _ (.cons_cons _ (.cons_cons _ (.cons _ (List.Sublist.refl _)))))
  have f1 : AllF (BoxP sb 93 (stV (pt0 db av m) (st0 d pol)).cells :: MapF m [] :: ArcO av (arcO pol.arc) :: DevF db d :: l) := .cons (fixed_box _ _ _) (.cons (fixed_map _ _) (.cons (fixed_arcO _ _) (.cons (fixed_dev _ _) hl)))
  have hr : RunF (.slice none 0 0) (ofL []) [] w := ⟨rfl, 0, PrsS.nil _ _ _⟩
  have h2 := h1.more f1 (Below.refl _ _) hr (fun _ h => by cases h)
  have f2 := AllF.cons (fixed_run (.slice none 0 0) (ofL [])) f1
  have h3 := h2.more f2 (Below.refl _ _) hr (fun _ h => by cases h)
  have f3 := AllF.cons (fixed_run (.slice none 0 0) (ofL [])) f2
  have h4 := h3.more f3 (Below.refl _ _) (R := SecO (.pointer none) db none) (H := []) ⟨rfl, rfl⟩ (fun _ h => by cases h)
  have h5 := h4.pick [SecO (.pointer none) db none, RunF (.slice none 0 0) (ofL []), RunF (.slice none 0 0) (ofL []), BoxP sb 93 (stV (pt0 db av m) (st0 d pol)).cells]
  have h6 := h5.pick [MapF m [], SecO (.pointer none) db none, RunF (.slice none 0 0) (ofL []), RunF (.slice none 0 0) (ofL []), BoxP sb 93 (stV (pt0 db av m) (st0 d pol)).cells]
  have h7 := h6.pick [ArcO av (arcO pol.arc), MapF m [], SecO (.pointer none) db none, RunF (.slice none 0 0) (ofL [])]
  have h8 := h7.pick [RunF (.slice none 0 0) (ofL []), ArcO av (arcO pol.arc), MapF m [], SecO (.pointer none) db none]
  exact h8.pick [RunF (.slice none 0 0) (ofL []), RunF (.slice none 0 0) (ofL []), ArcO av (arcO pol.arc), MapF m [], SecO (.pointer none) db none]
theorem sto_dev {s : Nat} {p : StP} {σ : StD} (h : Own B (stL s p σ ++ l) w) : Own B (DevF p.db σ.d :: l) w :=
  (h.pick [BoxP s 93 (stV p σ).cells, RunF p.v0 (ofL σ.u0), RunF p.v1 (ofL σ.u1), ArcO p.av σ.a, MapF p.m σ.L, SecO p.cv p.db σ.c]).subl (.cons_cons _ (.cons _ (.cons _ (.cons _ (.cons _ (.cons _ (.cons _ (List.Sublist.refl _))))))))
theorem reg_of {p : StP} {σ : StD} : regionS (stV p σ) σ.d = (match secOf σ.d σ.pol with | none => 0 | some _ => σ.pol.second) := by
  unfold regionS secOf
  show (if σ.pol.second < 2 ∨ (devSize σ.d 1 : Int) - 4 < σ.pol.second then 0 else σ.pol.second) = _
  split <;> rfl
/-- The cache that Open found comes to the store. -/
theorem own_cached {s k : Nat} {p : StP} {σ : StD} {x : SecD} (hl : AllF l) (h : One B (Both (Alls ([BoxP s 93 (stV p σ).cells, RunF p.v0 (ofL σ.u0), RunF p.v1 (ofL σ.u1), ArcO p.av σ.a, MapF p.m σ.L, SecO p.cv p.db σ.c] ++ l)) (ScF k p.db x)) p.db σ.d w) :
    Own B (stL s { p with cv := .pointer (some ⟨k, 0, none⟩) } { σ with c := some x } ++ l) (w.setCell ⟨s, 11, none⟩ (.pointer (some ⟨k, 0, none⟩))) ∧ Below B w (w.setCell ⟨s, 11, none⟩ (.pointer (some ⟨k, 0, none⟩))) := by
  have h1 := (Own.of_one2 h).pick [DevF p.db σ.d, ScF k p.db x]
  have f0 : AllF ([RunF p.v0 (ofL σ.u0), RunF p.v1 (ofL σ.u1), ArcO p.av σ.a, MapF p.m σ.L, SecO p.cv p.db σ.c] ++ l) := .append (.cons (fixed_run _ _) (.cons (fixed_run _ _) (.cons (fixed_arcO _ _) (.cons (fixed_map _ _) (.cons (fixed_secO _ _ _) .nil))))) hl
  have f1 : AllF ([DevF p.db σ.d, ScF k p.db x] ++ ([RunF p.v0 (ofL σ.u0), RunF p.v1 (ofL σ.u1), ArcO p.av σ.a, MapF p.m σ.L, SecO p.cv p.db σ.c] ++ l)) := .cons (fixed_dev _ _) (.cons (fixed_sc _ _ _) f0)
  obtain ⟨h2, h3⟩ := h1.set f1 11 (.pointer (some ⟨k, 0, none⟩))
  refine ⟨?_, h3⟩
  have h4 := h2.pick [BoxP s 93 ((stV p σ).cells.setIfInBounds 11 (.pointer (some ⟨k, 0, none⟩))), DevF p.db σ.d]
  have h5 := h4.imp (Q' := SecO (.pointer (some ⟨k, 0, none⟩)) p.db (some x)) (fun F hF => ⟨k, rfl, hF⟩)
  have h6 : Own B (SecO (.pointer (some ⟨k, 0, none⟩)) p.db (some x) :: BoxP s 93 ((stV p σ).cells.setIfInBounds 11 (.pointer (some ⟨k, 0, none⟩))) :: DevF p.db σ.d :: RunF p.v0 (ofL σ.u0) :: RunF p.v1 (ofL σ.u1) :: ArcO p.av σ.a :: MapF p.m σ.L :: l) (w.setCell ⟨s, 11, none⟩ (.pointer (some ⟨k, 0, none⟩))) := h5.subl (.cons_cons _ (.cons_cons _ (.cons_cons _ (.cons_cons _ (.cons_cons _ (.cons_cons _ (.cons_cons _ (.cons _ (List.Sublist.refl _)))))))))
  have h7 := h6.pick [SecO (.pointer (some ⟨k, 0, none⟩)) p.db (some x), BoxP s 93 ((stV p σ).cells.setIfInBounds 11 (.pointer (some ⟨k, 0, none⟩)))]
  -- D S Bx R0 R1 A M
  have h8 := h7.pick [DevF p.db σ.d]
  -- S D Bx R0 R1 A M
  have h9 := h8.pick [SecO (.pointer (some ⟨k, 0, none⟩)) p.db (some x), DevF p.db σ.d, BoxP s 93 ((stV p σ).cells.setIfInBounds 11 (.pointer (some ⟨k, 0, none⟩))), RunF p.v0 (ofL σ.u0), RunF p.v1 (ofL σ.u1), ArcO p.av σ.a]
  have ha := h9.pick [MapF p.m σ.L, SecO (.pointer (some ⟨k, 0, none⟩)) p.db (some x), DevF p.db σ.d, BoxP s 93 ((stV p σ).cells.setIfInBounds 11 (.pointer (some ⟨k, 0, none⟩))), RunF p.v0 (ofL σ.u0), RunF p.v1 (ofL σ.u1)]
  have hb := ha.pick [ArcO p.av σ.a, MapF p.m σ.L, SecO (.pointer (some ⟨k, 0, none⟩)) p.db (some x), DevF p.db σ.d, BoxP s 93 ((stV p σ).cells.setIfInBounds 11 (.pointer (some ⟨k, 0, none⟩))), RunF p.v0 (ofL σ.u0)]
  have hc := hb.pick [RunF p.v1 (ofL σ.u1), ArcO p.av σ.a, MapF p.m σ.L, SecO (.pointer (some ⟨k, 0, none⟩)) p.db (some x), DevF p.db σ.d, BoxP s 93 ((stV p σ).cells.setIfInBounds 11 (.pointer (some ⟨k, 0, none⟩)))]
  exact hc.pick [RunF p.v0 (ofL σ.u0), RunF p.v1 (ofL σ.u1), ArcO p.av σ.a, MapF p.m σ.L, SecO (.pointer (some ⟨k, 0, none⟩)) p.db (some x), DevF p.db σ.d]
theorem own_uncached {s : Nat} {p : StP} {σ : StD} (hl : AllF l) (hc : σ.c = none) (h : Own B (stL s p σ ++ l) w) : Own B (stL s p σ ++ l) (w.setCell ⟨s, 11, none⟩ (.pointer none)) ∧ Below B w (w.setCell ⟨s, 11, none⟩ (.pointer none)) := by
  have e := sto_nosec h hc
  have f1 := AllF.tail (P := BoxP s 93 (stV p σ).cells) (sto_all (s := s) (p := p) (σ := σ) hl)
  obtain ⟨h2, h3⟩ := Own.set (cs := (stV p σ).cells) (t := 93) f1 h 11 (.pointer none)
  have e2 : (stV p σ).cells.setIfInBounds 11 (.pointer none) = (stV p σ).cells := by rw [← e]; rfl
  rw [e2] at h2
  exact ⟨h2, h3⟩
/-- What Open comes to. -/
def OpenR (B db : Nat) (d : DevD) (pol : PolD) (used : List (Int × Int)) (t : Int) (l : List (List Nat → World → Prop)) (w : World) (e : Ending) (w' : World) : Prop :=
  (if settleOk d used t = true then ∃ s p, e = .returned (.tuple #[.pointer (some ⟨s, 0, none⟩), .int .i64 0]) ∧ p.db = db ∧ Own B (stL s p (openS d pol used t) ++ l) w' else e = .returned (.tuple #[.pointer none, .int .i64 1]) ∧ Own B (DevF db d :: l) w') ∧ Below B w w'
theorem OpenR.no {B db : Nat} {d : DevD} {pol : PolD} {used : List (Int × Int)} {t : Int} {l : List (List Nat → World → Prop)} {w w' : World} (h : settleOk d used t = false) (ho : Own B (DevF db d :: l) w') (hb : Below B w w') : OpenR B db d pol used t l w (.returned (.tuple #[.pointer none, .int .i64 1])) w' := by
  unfold OpenR
  rw [h]
  exact ⟨⟨rfl, ho⟩, hb⟩
theorem OpenR.yes {B db s : Nat} {p : StP} {d : DevD} {pol : PolD} {used : List (Int × Int)} {t : Int} {l : List (List Nat → World → Prop)} {w w' : World} (h : settleOk d used t = true) (hp : p.db = db) (ho : Own B (stL s p (openS d pol used t) ++ l) w') (hb : Below B w w') : OpenR B db d pol used t l w (.returned (.tuple #[.pointer (some ⟨s, 0, none⟩), .int .i64 0])) w' := by
  unfold OpenR
  rw [h]
  exact ⟨⟨s, p, rfl, hp, ho⟩, hb⟩
set_option maxRecDepth 100000 in
theorem sopen_nil (pol : PolD) (v : Value) (t : Int) (w : World) : Calls Tryz.prog 31 #[.pointer none, .agg #[.bool pol.mf, .bool pol.mi, .int .i64 pol.small, .int .i64 pol.arc, .int .i64 pol.second], v, .int .i64 t] w fun e w' => e = .returned (.tuple #[.pointer none, .int .i64 1]) ∧ Below w.heap.size w w' := by
  have HB : Hid (Below w.heap.size w (w.alloc (.cells #[.bool pol.mf, .bool pol.mi, .int .i64 pol.small, .int .i64 pol.arc, .int .i64 pol.second] 23 (0, 0)))) := (Below.refl _ _).alloc (Nat.le_refl _) _
  go_enter Tryz.func31, Tryz.ntmps31
  go_wp2
  go_ret2
  exact ⟨rfl, HB.out⟩
set_option maxRecDepth 100000 in
set_option maxHeartbeats 16000000 in
theorem sopen_any {db : Nat} {d : DevD} (hl : AllF l) (h : Own B (DevF db d :: l) w) (hz : ∀ t, devSize d t ≤ 512) (hT : Tiny d) (hK : Kt w) (hB : 0 < B) (pol : PolD) (hp : okPol pol = true) (a : Option Addr) (cap : Nat) (used : List (Int × Int)) (hn : used.length ≤ 1000) (hu : SlP w a used) (t : Int) :
    Calls Tryz.prog 31 #[.pointer (some ⟨db, 0, none⟩), .agg #[.bool pol.mf, .bool pol.mi, .int .i64 pol.small, .int .i64 pol.arc, .int .i64 pol.second], .slice a used.length cap, .int .i64 t] w (OpenR B db d pol used t l w) := by
  have HL := Lib.hid hl
  have HZ := Lib.hid hz
  have HTI := Lib.hid hT
  have HK := Lib.hid hK
  have HBP := Lib.hid hB
  have HU := Lib.hid hu
  have HN := Lib.hid hn
  have HP : Hid (0 ≤ pol.arc ∧ pol.arc ≤ 64 ∧ 0 ≤ pol.second ∧ pol.second ≤ 508) := by
    unfold okPol at hp
    rw [Bool.and_eq_true, Bool.and_eq_true] at hp
    have h1 := hp.1.2
    have h2 := hp.2
    unfold inB at h1 h2
    simp at h1 h2
    exact ⟨h1.1, h1.2, h2.1, h2.2⟩
  have HBW : Hid (B ≤ w.heap.size) := h.size
  obtain ⟨pb, hpb⟩ : ∃ x, x = w.heap.size := ⟨_, rfl⟩
  obtain ⟨wa, hwa⟩ : ∃ x, x = w.alloc (.cells #[.bool pol.mf, .bool pol.mi, .int .i64 pol.small, .int .i64 pol.arc, .int .i64 pol.second] 23 (0, 0)) := ⟨_, rfl⟩
  have HO : Hid (Own B (BoxP pb 23 #[.bool pol.mf, .bool pol.mi, .int .i64 pol.small, .int .i64 pol.arc, .int .i64 pol.second] :: DevF db d :: l) wa) := by show Own _ _ _; rw [hwa, hpb]; exact h.alloc (.cons (fixed_dev _ _) hl) 23 _
  have HB : Hid (Below w.heap.size w wa) := by show Below _ _ _; rw [hwa]; exact (Below.refl _ _).alloc (Nat.le_refl _) _
  have k0 : wa.cell? ⟨pb, 0, none⟩ = some (.bool pol.mf) := HO.out.boxed.cell 0 _ rfl
  have k1 : wa.cell? ⟨pb, 1, none⟩ = some (.bool pol.mi) := HO.out.boxed.cell 1 _ rfl
  have k2 : wa.cell? ⟨pb, 2, none⟩ = some (.int .i64 pol.small) := HO.out.boxed.cell 2 _ rfl
  have k3 : wa.cell? ⟨pb, 3, none⟩ = some (.int .i64 pol.arc) := HO.out.boxed.cell 3 _ rfl
  have k4 : wa.cell? ⟨pb, 4, none⟩ = some (.int .i64 pol.second) := HO.out.boxed.cell 4 _ rfl
  have HC : Hid (chkPol pol = 0) := by show _ = _; unfold chkPol; rw [hp]; rfl
  have hpb2 := hpb.symm
  have hwa2 := hwa.symm
  clear hpb hwa hp h hl hz hT hK hB hu hn
  go_enter Tryz.func31, Tryz.ntmps31
  go_wp2_with fail
  refine (class_check pol _).mono ?_
  rintro e w1 ⟨rfl, hb1⟩
  try rw [hwa2] at hb1
  rw [HC.out]
  have HF1 : Hid (AllF (BoxP pb 23 #[.bool pol.mf, .bool pol.mi, .int .i64 pol.small, .int .i64 pol.arc, .int .i64 pol.second] :: DevF db d :: l)) := .cons (fixed_box _ _ _) (.cons (fixed_dev _ _) HL.out)
  have HO1 := Lib.hid ((HO.out.keep HF1.out hb1).drew HF1.out)
  have HB1 : Hid (Below w.heap.size w w1.drew) := (HB.out.trans (hb1.mono HB.out.size)).drew
  have j0 : w1.drew.cell? ⟨pb, 0, none⟩ = some (.bool pol.mf) := HO1.out.boxed.cell 0 _ rfl
  have j1 : w1.drew.cell? ⟨pb, 1, none⟩ = some (.bool pol.mi) := HO1.out.boxed.cell 1 _ rfl
  have j2 : w1.drew.cell? ⟨pb, 2, none⟩ = some (.int .i64 pol.small) := HO1.out.boxed.cell 2 _ rfl
  have j3 : w1.drew.cell? ⟨pb, 3, none⟩ = some (.int .i64 pol.arc) := HO1.out.boxed.cell 3 _ rfl
  have j4 : w1.drew.cell? ⟨pb, 4, none⟩ = some (.int .i64 pol.second) := HO1.out.boxed.cell 4 _ rfl
  have hmm := @run_makeMap Tryz.prog
  clear hb1 k0 k1 k2 k3 k4 HO HB HC
  go_wp2_with fail
  refine wp_region_tree (fun W => W.cell? ⟨pb, 0, none⟩ = some (.bool pol.mf) ∧ W.cell? ⟨pb, 1, none⟩ = some (.bool pol.mi) ∧ W.cell? ⟨pb, 2, none⟩ = some (.int .i64 pol.small) ∧ W.cell? ⟨pb, 3, none⟩ = some (.int .i64 pol.arc) ∧ W.cell? ⟨pb, 4, none⟩ = some (.int .i64 pol.second)) 6 (.quiet 0 (.quiet 1 (.quiet 2 (.quiet 3 (.two 4 5 (.make 5 .nil) (.make 4 .nil)))))) (by kernel_rfl) (by kernel_rfl) ⟨j0, j1, j2, j3, j4⟩ ?_
  simp only [List.drop_succ_cons, List.drop_zero]
  iterate 4 (apply wpTr_step rfl; (intro W hS K hK; obtain ⟨y0, y1, y2, y3, y4⟩ := hS; go_simp; exact hK _ rfl))
  refine wpTr_two rfl rfl (fun K' hK => ?_) (fun K' hK => ?_)
  · go_simp
    refine (own_arc HF1.out HO1.out pol.arc HP.out.2.1).mono ?_
    rintro e w2 ⟨av, rfl, ho2, hb2⟩
    have HO2 := Lib.hid ho2
    have HF2 : Hid (AllF (ArcO (.pointer av) (arcO pol.arc) :: BoxP pb 23 #[.bool pol.mf, .bool pol.mi, .int .i64 pol.small, .int .i64 pol.arc, .int .i64 pol.second] :: DevF db d :: l)) := .cons (fixed_arcO _ _) HF1.out
    have HB2 := Lib.hid (HB1.out.trans (hb2.mono HB1.out.size))
    have hbx := (ho2.pick [ArcO (.pointer av) (arcO pol.arc)]).boxed
    refine hK _ _ _ (fun _ h => h) ⟨hbx.cell 0 _ rfl, hbx.cell 1 _ rfl, hbx.cell 2 _ rfl, hbx.cell 3 _ rfl, hbx.cell 4 _ rfl⟩ ?_
    clear hK K' ho2 hb2 hbx j0 j1 j2 j3 j4 HO1 HB1
    refine wpTr_make rfl (fun K' hK => ?_)
    go_simp
    have HO3 := Lib.hid (own_map HF2.out HO2.out)
    have HF3 : Hid (AllF (MapF w2.heap.size [] :: ArcO (.pointer av) (arcO pol.arc) :: BoxP pb 23 #[.bool pol.mf, .bool pol.mi, .int .i64 pol.small, .int .i64 pol.arc, .int .i64 pol.second] :: DevF db d :: l)) := .cons (fixed_map _ _) HF2.out
    have HB3 : Hid (Below w.heap.size w (w2.alloc (.map #[] 0))) := HB2.out.alloc HB2.out.size _
    have hbx := (HO3.out.pick [MapF w2.heap.size [], ArcO (.pointer av) (arcO pol.arc)]).boxed
    refine hK _ _ _ (fun _ h => h) ⟨hbx.cell 0 _ rfl, hbx.cell 1 _ rfl, hbx.cell 2 _ rfl, hbx.cell 3 _ rfl, hbx.cell 4 _ rfl⟩ ?_
    clear hK K' hbx HO2 HB2
    refine wpTr_nil ?_
    obtain ⟨w3, hw3⟩ : ∃ x, x = w2.alloc (.map #[] 0) := ⟨_, rfl⟩
    obtain ⟨mb, hmb⟩ : ∃ x, x = w2.heap.size := ⟨_, rfl⟩
    rw [← hw3, ← hmb] at HO3
    rw [← hw3] at HB3 ⊢
    rw [← hmb] at HF3 ⊢
    clear hw3 hmb HF2
    obtain ⟨sb, hsb⟩ : ∃ x, x = w3.heap.size := ⟨_, rfl⟩
    have HSB : Hid (w.heap.size ≤ sb) := by show _ ≤ _; rw [hsb]; exact HB3.out.size
    obtain ⟨w4, hw4⟩ : ∃ x, x = w3.alloc (.cells #[.pointer (some ⟨db, 0, none⟩), .bool pol.mf, .bool pol.mi, .int .i64 pol.small, .int .i64 pol.arc, .int .i64 pol.second, .int .i64 0, .slice none 0 0, .slice none 0 0, .pointer av, .map (some mb), .pointer none, .int .i64 0, .int .i64 0, .int .i64 0] 93 (0, 0)) := ⟨_, rfl⟩
    have HO4 : Hid (Own B (stL sb (pt0 db (.pointer av) mb) (st0 d pol) ++ l) w4) := by
      show Own _ _ _
      refine own_made (Q := BoxP pb 23 #[.bool pol.mf, .bool pol.mi, .int .i64 pol.small, .int .i64 pol.arc, .int .i64 pol.second]) HL.out (fixed_box _ _ _) ?_
      rw [hw4, hsb]
      exact HO3.out.alloc HF3.out 93 _
    have HB4 : Hid (Below w.heap.size w w4) := by show Below _ _ _; rw [hw4]; exact HB3.out.alloc HB3.out.size _
    have hsb2 := hsb.symm
    have hw42 := hw4.symm
    have hbd : ∀ W : World, (Instr.build 93 #[(0, .pointer (some ⟨db, 0, none⟩)), (1, .agg #[.bool pol.mf, .bool pol.mi, .int .i64 pol.small, .int .i64 pol.arc, .int .i64 pol.second]), (4, .pointer av), (5, .map (some mb))]).run Tryz.prog W = .ok (.agg #[.pointer (some ⟨db, 0, none⟩), .bool pol.mf, .bool pol.mi, .int .i64 pol.small, .int .i64 pol.arc, .int .i64 pol.second, .int .i64 0, .slice none 0 0, .slice none 0 0, .pointer av, .map (some mb), .pointer none, .int .i64 0, .int .i64 0, .int .i64 0]) W := fun W => by kernel_rfl
    have HSE := Lib.hid (ssettle_own HL.out HO4.out HZ.out (by have := HP.out; show -1000000 ≤ pol.second ∧ pol.second ≤ 1000000; omega) a cap used HN.out (fun W hc => HU.out.chg HB4.out HSB.out hc) t)
    clear hsb hw4 HO3 HF3 HB3 HF1
    go_wp2_with fail
    refine HSE.out.mono ?_
    rintro e w5 ⟨rfl, ⟨p', hpd0, ho50⟩, hb5⟩
    clear hsb2 hw42 hbd hmm
    have HB5 := Lib.hid ((HB4.out.mono HBW.out).trans hb5)
    have hpd : p'.db = db := hpd0
    clear hpd0
    subst hpd
    cases hso : settleOk d used t
    · have ho5 : Own B (stL sb p' (st0 d pol) ++ l) w5 := by
        have hh : settleOk (st0 d pol).d used t = false := hso
        rw [hh] at ho50
        exact ho50
      have he : (if settleOk (st0 d pol).d used t = true then (0 : Int) else 1) = 1 := by
        have hh : settleOk (st0 d pol).d used t = false := hso
        rw [hh]; rfl
      rw [he]
      clear ho50
      have HO5 := Lib.hid (sto_dev ho5)
      have HSO0 := Lib.hid hso
      clear ho5 hb5 he hso HSE HO4 HB4
      go_wp2
      go_ret2
      exact OpenR.no HSO0.out HO5.out HB5.out
    · have ho5 : Own B (stL sb p' (setlS (st0 d pol) (pt0 p'.db (.pointer av) mb) used t) ++ l) w5 := by
        have hh : settleOk (st0 d pol).d used t = true := hso
        rw [hh] at ho50
        exact ho50
      have he : (if settleOk (st0 d pol).d used t = true then (0 : Int) else 1) = 0 := by
        have hh : settleOk (st0 d pol).d used t = true := hso
        rw [hh]; rfl
      rw [he]
      clear ho50
      obtain ⟨σ1, hσ1⟩ : ∃ x, x = setlS (st0 d pol) (pt0 p'.db (.pointer av) mb) used t := ⟨_, rfl⟩
      have HS1 : Hid (σ1.d = d ∧ σ1.pol = pol ∧ σ1.c = none) := by rw [hσ1]; exact ⟨rfl, rfl, rfl⟩
      have HSO : Hid (openS d pol used t = { σ1 with c := secOf d pol }) := by show _ = _; rw [hσ1]; rfl
      rw [← hσ1] at ho5
      have HO5 := Lib.hid ho5
      have HRG := Lib.hid (sregion_any (sto_box ho5) (sto_one ho5) (by rw [HS1.out.1]; have := HZ.out 1; omega))
      have hrg : regionS (stV p' σ1) σ1.d = (match secOf d pol with | none => 0 | some _ => pol.second) := by rw [reg_of, HS1.out.1, HS1.out.2.1]
      rw [hrg] at HRG
      obtain ⟨z, hzz⟩ : ∃ z : Nat, z = devSize d 1 := ⟨_, rfl⟩
      have HZZ := Lib.hid hzz
      have hz9 : z ≤ 512 := by rw [hzz]; exact HZ.out 1
      have HO6 := Lib.hid ho5
      have HB6 := Lib.hid HB5.out
      have HSZ := Lib.hid (one_size (sto_one HO6.out) 1)
      rw [HS1.out.1, ← hzz] at HSZ
      have f11 := (sto_box HO6.out).free 11
      have HSO0 := Lib.hid hso
      clear ho5 hb5 he hso HSE HO4 HB4 hσ1 hrg hzz
      cases hsc : secOf d pol with
      | none =>
        rw [hsc] at HRG
        have HS2 : Hid (openS d pol used t = σ1) := by show _ = _; rw [HSO.out, hsc]; exact eta_c HS1.out.2.2
        have HSM := Lib.hid (second_small (sto_one HO6.out) (z : Int))
        have c11 : w5.cell? ⟨sb, 11, none⟩ = some p'.cv := (sto_box HO6.out).cell 11 _ rfl
        obtain ⟨ho7, hb7⟩ := own_uncached HL.out HS1.out.2.2 HO6.out
        have HO7 := Lib.hid ho7
        have HB7 := Lib.hid (HB6.out.trans hb7)
        have hw9 : wrap64 ((z : Int) - 0) = (z : Int) := by rw [Int.sub_zero]; exact IntWalk.wrap64_in _ (by omega)
        have hi9 : IntKind.i64.wrap ((z : Int) - 0) = (z : Int) := by rw [Int.sub_zero]; exact IntWalk.i64_in _ ⟨by omega, by omega⟩
        have hw8 : wrap64 (z : Int) = (z : Int) := IntWalk.wrap64_in _ (by omega)
        have hi8 : IntKind.i64.wrap (z : Int) = (z : Int) := IntWalk.i64_in _ ⟨by omega, by omega⟩
        clear ho7 hb7 HSO hsc
        go_wp2_with fail
        refine HRG.out.mono ?_
        rintro e w6 ⟨rfl, rfl⟩
        go_wp2_with fail
        refine HSZ.out.mono ?_
        rintro e w6 ⟨rfl, rfl⟩
        go_wp2_with fail
        refine HSM.out.mono ?_
        rintro e w6 ⟨rfl, rfl⟩
        go_wp2
        go_ret2
        exact OpenR.yes HSO0.out rfl (by rw [HS2.out]; exact HO7.out) HB7.out
      | some xs =>
        rw [hsc] at HRG
        have hnn : ¬ (pol.second < 2 ∨ (devSize d 1 : Int) - 4 < pol.second) := fun h => by unfold secOf at hsc; rw [if_pos h] at hsc; cases hsc
        have hxs : xs = recX d (newX (devSize d 1 - pol.second.toNat) pol.second.toNat) := by unfold secOf at hsc; rw [if_neg hnn] at hsc; injection hsc with hsc; exact hsc.symm
        obtain ⟨n, hn⟩ : ∃ n : Nat, pol.second = (n : Int) := ⟨pol.second.toNat, by omega⟩
        have hn2 : pol.second.toNat = n := by omega
        rw [hn2, ← HZZ.out] at hxs
        rw [← HZZ.out, hn] at hnn
        have HNN : Hid (2 ≤ n ∧ n + 4 ≤ z) := ⟨by omega, by omega⟩
        rw [hn] at HRG
        have HOP := Lib.hid (open_ok (sto_fix HL.out) (sto_one HO6.out) (z - n) n HNN.out.1 (by rw [HS1.out.1, ← HZZ.out]; have := HNN.out; omega) (by rw [HS1.out.1]; exact HZ.out 1) (HK.out.below HB6.out HBP.out) HBP.out (by rw [HS1.out.1]; exact fun l => Nat.le_trans (HTI.out.tell l) (by decide)))
        rw [HS1.out.1, ← hxs] at HOP
        have hcast : ((z - n : Nat) : Int) = (z : Int) - n := by have := HNN.out; omega
        rw [hcast] at HOP
        have HS2 : Hid (openS d pol used t = { σ1 with c := some xs }) := by show _ = _; rw [HSO.out, hsc]
        have hw9 : wrap64 ((z : Int) - (n : Int)) = (z : Int) - n := IntWalk.wrap64_in _ (by omega)
        have hi9 : IntKind.i64.wrap ((z : Int) - (n : Int)) = (z : Int) - n := IntWalk.i64_in _ ⟨by omega, by omega⟩
        clear HSO hsc hnn hxs hn hn2 hcast
        go_wp2_with fail
        refine HRG.out.mono ?_
        rintro e w6 ⟨rfl, rfl⟩
        go_wp2_with fail
        refine HSZ.out.mono ?_
        rintro e w6 ⟨rfl, rfl⟩
        go_wp2_with fail
        refine HOP.out.mono ?_
        rintro e w7 ⟨k, rfl, ho7, hb7⟩
        have h7 := ho7
        rw [← HS1.out.1] at h7
        have ho8 := (Own.of_one (l := [BoxP sb 93 (stV p' σ1).cells, RunF p'.v0 (ofL σ1.u0), RunF p'.v1 (ofL σ1.u1), ArcO p'.av σ1.a, MapF p'.m σ1.L, SecO p'.cv p'.db σ1.c] ++ l) h7.drop).back [BoxP sb 93 (stV p' σ1).cells, RunF p'.v0 (ofL σ1.u0), RunF p'.v1 (ofL σ1.u1), ArcO p'.av σ1.a, MapF p'.m σ1.L, SecO p'.cv p'.db σ1.c]
        have c11 : w7.cell? ⟨sb, 11, none⟩ = some p'.cv := (sto_box ho8).cell 11 _ rfl
        have g11 := (sto_box ho8).free 11
        obtain ⟨ho9, hb9⟩ := own_cached HL.out h7
        have HO9 := Lib.hid ho9
        have HB9 := Lib.hid ((HB6.out.trans hb7).trans hb9)
        clear h7 ho7 ho8 hb7 ho9 hb9 f11
        go_wp2
        go_ret2
        exact OpenR.yes (p := { p' with cv := .pointer (some ⟨k, 0, none⟩) }) HSO0.out rfl (by rw [HS2.out]; exact HO9.out) HB9.out
  · go_simp
    have HO2 := Lib.hid (own_map HF1.out HO1.out)
    have HF2 : Hid (AllF (MapF w1.heap.size [] :: BoxP pb 23 #[.bool pol.mf, .bool pol.mi, .int .i64 pol.small, .int .i64 pol.arc, .int .i64 pol.second] :: DevF db d :: l)) := .cons (fixed_map _ _) HF1.out
    have HB2 : Hid (Below w.heap.size w (w1.drew.alloc (.map #[] 0))) := HB1.out.alloc HB1.out.size _
    have hbx := (HO2.out.pick [MapF w1.heap.size []]).boxed
    refine hK _ _ _ (fun _ h => h) ⟨hbx.cell 0 _ rfl, hbx.cell 1 _ rfl, hbx.cell 2 _ rfl, hbx.cell 3 _ rfl, hbx.cell 4 _ rfl⟩ ?_
    clear hK K' hbx j0 j1 j2 j3 j4 HO1 HB1
    refine wpTr_make rfl (fun K' hK => ?_)
    go_simp
    refine (own_arc HF2.out HO2.out pol.arc HP.out.2.1).mono ?_
    rintro e w3 ⟨av, rfl, ho3, hb3⟩
    have HB3 := Lib.hid (HB2.out.trans (hb3.mono HB2.out.size))
    have hbx := (ho3.pick [ArcO (.pointer av) (arcO pol.arc), MapF w1.heap.size []]).boxed
    refine hK _ _ _ (fun _ h => h) ⟨hbx.cell 0 _ rfl, hbx.cell 1 _ rfl, hbx.cell 2 _ rfl, hbx.cell 3 _ rfl, hbx.cell 4 _ rfl⟩ ?_
    have HO3 := Lib.hid (ho3.pick [ArcO (.pointer av) (arcO pol.arc)])
    have HF3 : Hid (AllF (MapF w1.heap.size [] :: ArcO (.pointer av) (arcO pol.arc) :: BoxP pb 23 #[.bool pol.mf, .bool pol.mi, .int .i64 pol.small, .int .i64 pol.arc, .int .i64 pol.second] :: DevF db d :: l)) := .cons (fixed_map _ _) (.cons (fixed_arcO _ _) HF1.out)
    clear hK K' hbx HO2 HB2 ho3 hb3
    refine wpTr_nil ?_
    obtain ⟨mb, hmb⟩ : ∃ x, x = w1.heap.size := ⟨_, rfl⟩
    rw [← hmb] at HO3 HF3 ⊢
    clear hmb HF2
    obtain ⟨sb, hsb⟩ : ∃ x, x = w3.heap.size := ⟨_, rfl⟩
    have HSB : Hid (w.heap.size ≤ sb) := by show _ ≤ _; rw [hsb]; exact HB3.out.size
    obtain ⟨w4, hw4⟩ : ∃ x, x = w3.alloc (.cells #[.pointer (some ⟨db, 0, none⟩), .bool pol.mf, .bool pol.mi, .int .i64 pol.small, .int .i64 pol.arc, .int .i64 pol.second, .int .i64 0, .slice none 0 0, .slice none 0 0, .pointer av, .map (some mb), .pointer none, .int .i64 0, .int .i64 0, .int .i64 0] 93 (0, 0)) := ⟨_, rfl⟩
    have HO4 : Hid (Own B (stL sb (pt0 db (.pointer av) mb) (st0 d pol) ++ l) w4) := by
      show Own _ _ _
      refine own_made (Q := BoxP pb 23 #[.bool pol.mf, .bool pol.mi, .int .i64 pol.small, .int .i64 pol.arc, .int .i64 pol.second]) HL.out (fixed_box _ _ _) ?_
      rw [hw4, hsb]
      exact HO3.out.alloc HF3.out 93 _
    have HB4 : Hid (Below w.heap.size w w4) := by show Below _ _ _; rw [hw4]; exact HB3.out.alloc HB3.out.size _
    have hsb2 := hsb.symm
    have hw42 := hw4.symm
    have hbd : ∀ W : World, (Instr.build 93 #[(0, .pointer (some ⟨db, 0, none⟩)), (1, .agg #[.bool pol.mf, .bool pol.mi, .int .i64 pol.small, .int .i64 pol.arc, .int .i64 pol.second]), (4, .pointer av), (5, .map (some mb))]).run Tryz.prog W = .ok (.agg #[.pointer (some ⟨db, 0, none⟩), .bool pol.mf, .bool pol.mi, .int .i64 pol.small, .int .i64 pol.arc, .int .i64 pol.second, .int .i64 0, .slice none 0 0, .slice none 0 0, .pointer av, .map (some mb), .pointer none, .int .i64 0, .int .i64 0, .int .i64 0]) W := fun W => by kernel_rfl
    have HSE := Lib.hid (ssettle_own HL.out HO4.out HZ.out (by have := HP.out; show -1000000 ≤ pol.second ∧ pol.second ≤ 1000000; omega) a cap used HN.out (fun W hc => HU.out.chg HB4.out HSB.out hc) t)
    clear hsb hw4 HO3 HF3 HB3 HF1
    go_wp2_with fail
    refine HSE.out.mono ?_
    rintro e w5 ⟨rfl, ⟨p', hpd0, ho50⟩, hb5⟩
    clear hsb2 hw42 hbd hmm
    have HB5 := Lib.hid ((HB4.out.mono HBW.out).trans hb5)
    have hpd : p'.db = db := hpd0
    clear hpd0
    subst hpd
    cases hso : settleOk d used t
    · have ho5 : Own B (stL sb p' (st0 d pol) ++ l) w5 := by
        have hh : settleOk (st0 d pol).d used t = false := hso
        rw [hh] at ho50
        exact ho50
      have he : (if settleOk (st0 d pol).d used t = true then (0 : Int) else 1) = 1 := by
        have hh : settleOk (st0 d pol).d used t = false := hso
        rw [hh]; rfl
      rw [he]
      clear ho50
      have HO5 := Lib.hid (sto_dev ho5)
      have HSO0 := Lib.hid hso
      clear ho5 hb5 he hso HSE HO4 HB4
      go_wp2
      go_ret2
      exact OpenR.no HSO0.out HO5.out HB5.out
    · have ho5 : Own B (stL sb p' (setlS (st0 d pol) (pt0 p'.db (.pointer av) mb) used t) ++ l) w5 := by
        have hh : settleOk (st0 d pol).d used t = true := hso
        rw [hh] at ho50
        exact ho50
      have he : (if settleOk (st0 d pol).d used t = true then (0 : Int) else 1) = 0 := by
        have hh : settleOk (st0 d pol).d used t = true := hso
        rw [hh]; rfl
      rw [he]
      clear ho50
      obtain ⟨σ1, hσ1⟩ : ∃ x, x = setlS (st0 d pol) (pt0 p'.db (.pointer av) mb) used t := ⟨_, rfl⟩
      have HS1 : Hid (σ1.d = d ∧ σ1.pol = pol ∧ σ1.c = none) := by rw [hσ1]; exact ⟨rfl, rfl, rfl⟩
      have HSO : Hid (openS d pol used t = { σ1 with c := secOf d pol }) := by show _ = _; rw [hσ1]; rfl
      rw [← hσ1] at ho5
      have HO5 := Lib.hid ho5
      have HRG := Lib.hid (sregion_any (sto_box ho5) (sto_one ho5) (by rw [HS1.out.1]; have := HZ.out 1; omega))
      have hrg : regionS (stV p' σ1) σ1.d = (match secOf d pol with | none => 0 | some _ => pol.second) := by rw [reg_of, HS1.out.1, HS1.out.2.1]
      rw [hrg] at HRG
      obtain ⟨z, hzz⟩ : ∃ z : Nat, z = devSize d 1 := ⟨_, rfl⟩
      have HZZ := Lib.hid hzz
      have hz9 : z ≤ 512 := by rw [hzz]; exact HZ.out 1
      have HO6 := Lib.hid ho5
      have HB6 := Lib.hid HB5.out
      have HSZ := Lib.hid (one_size (sto_one HO6.out) 1)
      rw [HS1.out.1, ← hzz] at HSZ
      have f11 := (sto_box HO6.out).free 11
      have HSO0 := Lib.hid hso
      clear ho5 hb5 he hso HSE HO4 HB4 hσ1 hrg hzz
      cases hsc : secOf d pol with
      | none =>
        rw [hsc] at HRG
        have HS2 : Hid (openS d pol used t = σ1) := by show _ = _; rw [HSO.out, hsc]; exact eta_c HS1.out.2.2
        have HSM := Lib.hid (second_small (sto_one HO6.out) (z : Int))
        have c11 : w5.cell? ⟨sb, 11, none⟩ = some p'.cv := (sto_box HO6.out).cell 11 _ rfl
        obtain ⟨ho7, hb7⟩ := own_uncached HL.out HS1.out.2.2 HO6.out
        have HO7 := Lib.hid ho7
        have HB7 := Lib.hid (HB6.out.trans hb7)
        have hw9 : wrap64 ((z : Int) - 0) = (z : Int) := by rw [Int.sub_zero]; exact IntWalk.wrap64_in _ (by omega)
        have hi9 : IntKind.i64.wrap ((z : Int) - 0) = (z : Int) := by rw [Int.sub_zero]; exact IntWalk.i64_in _ ⟨by omega, by omega⟩
        have hw8 : wrap64 (z : Int) = (z : Int) := IntWalk.wrap64_in _ (by omega)
        have hi8 : IntKind.i64.wrap (z : Int) = (z : Int) := IntWalk.i64_in _ ⟨by omega, by omega⟩
        clear ho7 hb7 HSO hsc
        go_wp2_with fail
        refine HRG.out.mono ?_
        rintro e w6 ⟨rfl, rfl⟩
        go_wp2_with fail
        refine HSZ.out.mono ?_
        rintro e w6 ⟨rfl, rfl⟩
        go_wp2_with fail
        refine HSM.out.mono ?_
        rintro e w6 ⟨rfl, rfl⟩
        go_wp2
        go_ret2
        exact OpenR.yes HSO0.out rfl (by rw [HS2.out]; exact HO7.out) HB7.out
      | some xs =>
        rw [hsc] at HRG
        have hnn : ¬ (pol.second < 2 ∨ (devSize d 1 : Int) - 4 < pol.second) := fun h => by unfold secOf at hsc; rw [if_pos h] at hsc; cases hsc
        have hxs : xs = recX d (newX (devSize d 1 - pol.second.toNat) pol.second.toNat) := by unfold secOf at hsc; rw [if_neg hnn] at hsc; injection hsc with hsc; exact hsc.symm
        obtain ⟨n, hn⟩ : ∃ n : Nat, pol.second = (n : Int) := ⟨pol.second.toNat, by omega⟩
        have hn2 : pol.second.toNat = n := by omega
        rw [hn2, ← HZZ.out] at hxs
        rw [← HZZ.out, hn] at hnn
        have HNN : Hid (2 ≤ n ∧ n + 4 ≤ z) := ⟨by omega, by omega⟩
        rw [hn] at HRG
        have HOP := Lib.hid (open_ok (sto_fix HL.out) (sto_one HO6.out) (z - n) n HNN.out.1 (by rw [HS1.out.1, ← HZZ.out]; have := HNN.out; omega) (by rw [HS1.out.1]; exact HZ.out 1) (HK.out.below HB6.out HBP.out) HBP.out (by rw [HS1.out.1]; exact fun l => Nat.le_trans (HTI.out.tell l) (by decide)))
        rw [HS1.out.1, ← hxs] at HOP
        have hcast : ((z - n : Nat) : Int) = (z : Int) - n := by have := HNN.out; omega
        rw [hcast] at HOP
        have HS2 : Hid (openS d pol used t = { σ1 with c := some xs }) := by show _ = _; rw [HSO.out, hsc]
        have hw9 : wrap64 ((z : Int) - (n : Int)) = (z : Int) - n := IntWalk.wrap64_in _ (by omega)
        have hi9 : IntKind.i64.wrap ((z : Int) - (n : Int)) = (z : Int) - n := IntWalk.i64_in _ ⟨by omega, by omega⟩
        clear HSO hsc hnn hxs hn hn2 hcast
        go_wp2_with fail
        refine HRG.out.mono ?_
        rintro e w6 ⟨rfl, rfl⟩
        go_wp2_with fail
        refine HSZ.out.mono ?_
        rintro e w6 ⟨rfl, rfl⟩
        go_wp2_with fail
        refine HOP.out.mono ?_
        rintro e w7 ⟨k, rfl, ho7, hb7⟩
        have h7 := ho7
        rw [← HS1.out.1] at h7
        have ho8 := (Own.of_one (l := [BoxP sb 93 (stV p' σ1).cells, RunF p'.v0 (ofL σ1.u0), RunF p'.v1 (ofL σ1.u1), ArcO p'.av σ1.a, MapF p'.m σ1.L, SecO p'.cv p'.db σ1.c] ++ l) h7.drop).back [BoxP sb 93 (stV p' σ1).cells, RunF p'.v0 (ofL σ1.u0), RunF p'.v1 (ofL σ1.u1), ArcO p'.av σ1.a, MapF p'.m σ1.L, SecO p'.cv p'.db σ1.c]
        have c11 : w7.cell? ⟨sb, 11, none⟩ = some p'.cv := (sto_box ho8).cell 11 _ rfl
        have g11 := (sto_box ho8).free 11
        obtain ⟨ho9, hb9⟩ := own_cached HL.out h7
        have HO9 := Lib.hid ho9
        have HB9 := Lib.hid ((HB6.out.trans hb7).trans hb9)
        clear h7 ho7 ho8 hb7 ho9 hb9 f11
        go_wp2
        go_ret2
        exact OpenR.yes (p := { p' with cv := .pointer (some ⟨k, 0, none⟩) }) HSO0.out rfl (by rw [HS2.out]; exact HO9.out) HB9.out
end
end Go.Proofs.YtphhnhldbajaoaaGreatDoor
