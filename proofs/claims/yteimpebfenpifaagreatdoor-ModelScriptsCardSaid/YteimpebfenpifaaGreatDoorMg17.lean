/-
  Texts put together: Sched3, MoF.
-/
import Derived.Test.YteimpebfenpifaaGreatDoorMg7
import Derived.Test.YteimpebfenpifaaGreatDoorMg16
namespace Go.Proofs.YteimpebfenpifaaGreatDoor
open Go

/-- A tree of schedules. -/
inductive Sch where
  | nil
  | quiet (i : Nat) (r : Sch)
  | make (i : Nat) (r : Sch)
  | two (i j : Nat) (r q : Sch)
def Sch.depth : Sch → Nat
  | .nil => 0
  | .quiet _ r => r.depth + 1
  | .make _ r => r.depth + 1
  | .two _ _ r _ => r.depth + 1

section
variable {P : Program} {ops : Array Oper} {Q : Exit → Act → World → Prop}

def wpTr (P : Program) (ops : Array Oper) (Q : Exit → Act → World → Prop) (Lq : Act → World → Prop) : Sch → (World → Prop) → Act → World → Prop
  | .nil, _, a, w => Lq a w
  | .quiet i r, S, a, w => ∃ o a1, ops[i]? = some o ∧ (∀ W, S W → if Region.wanted o (yielded ops a.tmps) then o.still P a W (fun a' => a' = a1) else a.put o.dst undef = a1) ∧ wpTr P ops Q Lq r S a1 w
  | .make i r, S, a, w => wpOp P ops (Calm Q) i (fun a' w' => ∃ S' : World → Prop, (∀ W, S' W → S W) ∧ S' w' ∧ wpTr P ops Q Lq r S' a' w') a w
  | .two i j r q, S, a, w => wpOp P ops (Calm Q) i (fun a' w' => ∃ S' : World → Prop, (∀ W, S' W → S W) ∧ S' w' ∧ wpTr P ops Q Lq r S' a' w') a w ∧ wpOp P ops (Calm Q) j (fun a' w' => ∃ S' : World → Prop, (∀ W, S' W → S W) ∧ S' w' ∧ wpTr P ops Q Lq q S' a' w') a w
def trB (ops : Array Oper) (g n : Nat) : Sch → Array Bool → Bool
  | .nil, listed => Region.seqB .any ops g n listed
  | .quiet i r, listed => (Region.ready .any ops listed).contains i && Region.free .any ops listed i && decide (i < n) && trB ops g n r (listed.setIfInBounds i true)
  | .make i r, listed => decide (Region.ready .any ops listed = [i]) && decide (i < n) && trB ops g n r (listed.setIfInBounds i true)
  | .two i j r q, listed => decide (Region.ready .any ops listed = [i, j]) && decide (i < n ∧ j < n ∧ q.depth = r.depth) && trB ops g n r (listed.setIfInBounds i true) && trB ops g n q (listed.setIfInBounds j true)
def treeB (ops : Array Oper) (n : Nat) (sch : Sch) : Bool :=
  Region.noSelect ops && decide (n < ops.size) && Region.sinkB .any ops n && Region.chainB .any ops n && decide (sch.depth = n) && trB ops (ops.size - n) n sch (Array.replicate ops.size false)

theorem wpX_of_tr {n g : Nat} {Lq : Act → World → Prop} (hsel : Region.noSelect ops = true) (hs : Region.sinkB .any ops n = true) (hc : Region.chainB .any ops n = true) (hn : n < ops.size) :
    ∀ (sch : Sch) (S : World → Prop) (listed : Array Bool) (a : Act) (w : World), HeadInv .any ops n listed → S w → trB ops g n sch listed = true → wpTr P ops Q Lq sch S a w →
    wpX P ops Q n (fun listed' a' w' => Region.seqB .any ops g n listed' = true ∧ Lq a' w') sch.depth S listed a w
  | .nil, _, listed, a, w, _, _, hB, h => ⟨hB, h⟩
  | .quiet i r, S, listed, a, w, inv, hS, hB, h => by
    rw [trB, Bool.and_eq_true, Bool.and_eq_true, Bool.and_eq_true] at hB
    obtain ⟨⟨⟨hr, hf⟩, hin⟩, hB'⟩ := hB
    have hr' : i ∈ Region.ready .any ops listed := by simpa using hr
    have hin' : i < n := of_decide_eq_true hin
    obtain ⟨o, a1, h0, hst, hK⟩ := h
    have hst' : ∀ W, S W → ∃ v', YieldsAt P ops W o v' a ∧ a.put o.dst v' = a1 := fun W hW => by
      have := hst W hW
      exact yieldsAt_of_stOp (i := i) h0 (by unfold stOp; simp only [h0]; exact this)
    obtain ⟨v, _, hv⟩ := hst' w hS
    subst hv
    exact wpX_first h0 (Region.noSelect_spec hsel) hs hc hn hin' (fun listed' a' w' hL => seqB_ready hL.1) r.depth S listed a w v inv (Region.free_spec h0 hf) hr' hS hst'
      (wpX_of_tr hsel hs hc hn r S _ _ w (inv.set hr' hin') hS hB' hK)
  | .make i r, S, listed, a, w, inv, hS, hB, h => by
    rw [trB, Bool.and_eq_true, Bool.and_eq_true] at hB
    obtain ⟨⟨hr, hin⟩, hB'⟩ := hB
    have hr1 : Region.ready .any ops listed = [i] := of_decide_eq_true hr
    have hin' : i < n := of_decide_eq_true hin
    refine ⟨fun h => (by rw [hr1] at h; cases h), fun j hj => ?_⟩
    have hji : j = i := by rw [hr1] at hj; simpa using hj
    subst hji
    refine ⟨hin', ?_⟩
    have h' : wpOp P ops (Calm Q) j (fun a' w' => ∃ S' : World → Prop, (∀ W, S' W → S W) ∧ S' w' ∧ wpTr P ops Q Lq r S' a' w') a w := h
    refine wpOp_mono (fun a' w' ⟨S', hm, hS', h3⟩ => ⟨S', hm, hS', ?_⟩) h'
    exact wpX_of_tr hsel hs hc hn r S' _ a' w' (inv.set hj hin') hS' hB' h3
  | .two i k r q, S, listed, a, w, inv, hS, hB, h => by
    rw [trB, Bool.and_eq_true, Bool.and_eq_true, Bool.and_eq_true] at hB
    obtain ⟨⟨⟨hr, hin⟩, hB1⟩, hB2⟩ := hB
    have hr1 : Region.ready .any ops listed = [i, k] := of_decide_eq_true hr
    obtain ⟨hi, hk, hd⟩ := of_decide_eq_true hin
    obtain ⟨h1, h2⟩ : wpOp P ops (Calm Q) i (fun a' w' => ∃ S' : World → Prop, (∀ W, S' W → S W) ∧ S' w' ∧ wpTr P ops Q Lq r S' a' w') a w ∧ wpOp P ops (Calm Q) k (fun a' w' => ∃ S' : World → Prop, (∀ W, S' W → S W) ∧ S' w' ∧ wpTr P ops Q Lq q S' a' w') a w := h
    refine ⟨fun h => (by rw [hr1] at h; cases h), fun j hj => ?_⟩
    have hji : j = i ∨ j = k := by rw [hr1] at hj; simpa using hj
    rcases hji with rfl | rfl
    · refine ⟨hi, wpOp_mono (fun a' w' ⟨S', hm, hS', h3⟩ => ⟨S', hm, hS', ?_⟩) h1⟩
      exact wpX_of_tr hsel hs hc hn r S' _ a' w' (inv.set hj hi) hS' hB1 h3
    · refine ⟨hk, wpOp_mono (fun a' w' ⟨S', hm, hS', h3⟩ => ⟨S', hm, hS', ?_⟩) h2⟩
      have := wpX_of_tr hsel hs hc hn q S' _ a' w' (inv.set hj hk) hS' hB2 h3
      rw [hd] at this
      exact this

theorem wpTr_nil {Lq : Act → World → Prop} {S : World → Prop} {a : Act} {w : World} (h : Lq a w) : wpTr P ops Q Lq .nil S a w := h
/-- An operation that only reads. -/
theorem wpTr_step {l : List Oper} {Lq : Act → World → Prop} {S : World → Prop} {i : Nat} {o : Oper} {r : Sch} {a a1 : Act} {w : World} (hi : l[i]? = some o)
    (h : ∀ W, S W → ∀ K : Act → Prop, (∀ a', a' = a1 → K a') → if Region.wanted o (yielded l.toArray a.tmps) then o.still P a W K else K (a.put o.dst undef))
    (h2 : wpTr P l.toArray Q Lq r S a1 w) : wpTr P l.toArray Q Lq (.quiet i r) S a w :=
  ⟨o, a1, by simpa using hi, fun W hS => h W hS (fun a' => a' = a1) (fun _ h => h), h2⟩
/-- One that makes memory: S may say more behind it. -/
theorem wpTr_make {l : List Oper} {Lq : Act → World → Prop} {S : World → Prop} {i : Nat} {o : Oper} {r : Sch} {a : Act} {w : World} (hi : l[i]? = some o)
    (h : ∀ K' : Act → World → Prop, (∀ a' w' (S' : World → Prop), (∀ W, S' W → S W) → S' w' → wpTr P l.toArray Q Lq r S' a' w' → K' a' w') → if Region.wanted o (yielded l.toArray a.tmps) then o.wp P a w K' (Calm Q) else K' (a.put o.dst undef) w) :
    wpTr P l.toArray Q Lq (.make i r) S a w :=
  wpOp_step hi (fun K' hK => h K' (fun a' w' S' h1 h2 h3 => hK a' w' ⟨S', h1, h2, h3⟩))
/-- Two that make memory, either of which may come first. -/
theorem wpTr_two {l : List Oper} {Lq : Act → World → Prop} {S : World → Prop} {i j : Nat} {o p : Oper} {r q : Sch} {a : Act} {w : World} (hi : l[i]? = some o) (hj : l[j]? = some p)
    (h : ∀ K' : Act → World → Prop, (∀ a' w' (S' : World → Prop), (∀ W, S' W → S W) → S' w' → wpTr P l.toArray Q Lq r S' a' w' → K' a' w') → if Region.wanted o (yielded l.toArray a.tmps) then o.wp P a w K' (Calm Q) else K' (a.put o.dst undef) w)
    (h2 : ∀ K' : Act → World → Prop, (∀ a' w' (S' : World → Prop), (∀ W, S' W → S W) → S' w' → wpTr P l.toArray Q Lq q S' a' w' → K' a' w') → if Region.wanted p (yielded l.toArray a.tmps) then p.wp P a w K' (Calm Q) else K' (a.put p.dst undef) w) :
    wpTr P l.toArray Q Lq (.two i j r q) S a w :=
  ⟨wpOp_step hi (fun K' hK => h K' (fun a' w' S' h1 h2 h3 => hK a' w' ⟨S', h1, h2, h3⟩)), wpOp_step hj (fun K' hK => h2 K' (fun a' w' S' h1 h2 h3 => hK a' w' ⟨S', h1, h2, h3⟩))⟩
/-- The region by its tree: n operations, and a tail in its order. -/
theorem wp_region_tree {id : Nat} {a : Act} {w : World} {l : List Oper} (S : World → Prop) (n : Nat) (sch : Sch) (hm : P.follows .mixedOrders = true) (hB : treeB l.toArray n sch = true) (hS : S w.drew)
    (h : wpTr P l.toArray Q (fun a' w' => wpList P l.toArray Q (l.drop n) a' w') sch S a w.drew) : (Code.region id l.toArray true).wp P Q a w := by
  simp only [treeB, Bool.and_eq_true, decide_eq_true_eq] at hB
  obtain ⟨⟨⟨⟨⟨hsel, hn⟩, hs⟩, hc⟩, hlen⟩, hlex⟩ := hB
  have hn' : n < l.length := by simpa using hn
  have hdl : (l.drop n).length = l.toArray.size - n := by simp
  have inv0 : HeadInv .any l.toArray n (Array.replicate l.toArray.size false) :=
    ⟨by simp, fun j oj _ hl => (by rw [getD_replicate_false] at hl; cases hl), fun t _ ht => getD_in (by simpa using ht) (getD_replicate_false _ _)⟩
  have H := wpX_of_tr (Q := Q) (g := l.toArray.size - n) (Lq := fun a'' w'' => wpList P l.toArray Q (l.drop n) a'' w'') hsel hs hc hn sch S _ a w.drew inv0 hS hlex h
  refine wp_region_any hm ?_
  have := any_of_wpX (Q := Q) (g := l.toArray.size - n) (fun listed a' w' hL => by
    have := wpAny_of_seq (md := .any) (Q' := Q) (l.drop n) n listed a' w' (fun j => by simp [List.getElem?_drop]) (by rw [hdl]; exact hL.1) hL.2
    rwa [hdl] at this) _ _ _ _ _ H
  rw [hlen, show n + (l.toArray.size - n) = l.toArray.size by omega] at this
  exact this
end
end Go.Proofs.YteimpebfenpifaaGreatDoor

namespace Go.Proofs.YteimpebfenpifaaGreatDoor
open Go.RowKit Go.ChangeShapes Go.WideShapes Go.ChangeAt

/-- What a call made of the tree x: it tells G' now. -/
def Done (x : TrD) (G' : GD) (k' : Nat) (B : List Nat) (w w' : World) : Prop :=
  ∃ x', x'.b = x.b ∧ TrAt w' x' ∧ Rel x'.M G' k' ∧ Chg x.blocks w w' ∧ ∀ j ∈ x'.blocks, j ∈ x.blocks ∨ j ∈ B ∨ w.heap.size ≤ j
theorem Rel.up {M : MoD} {G : GD} {k : Nat} (h : Rel M G k) : Rel M G (k + 1) :=
  ⟨h.wf, h.mnd, h.last, h.num, h.dom, h.th, fun n t ht => ⟨(h.nds n t ht).1, Nat.le_succ_of_le (h.nds n t ht).2⟩, h.ent, h.file, Nat.le_succ_of_le h.bE, Nat.le_succ_of_le h.bT⟩
theorem Done.same {x : TrD} {G : GD} {k : Nat} {w w' : World} (h : TrAt w x) (hr : Rel x.M G k) (hb : Below w.heap.size w w') (B : List Nat) : Done x G (k + 1) B w w' :=
  ⟨x, rfl, h.keep hb, hr.up, Chg.of hb (Nat.le_refl _), fun _ hj => .inl hj⟩
theorem Done.after {x : TrD} {G : GD} {k : Nat} {B : List Nat} {w w1 w2 : World} (hb : Below w.heap.size w w1) (h : Done x G k B w1 w2) : Done x G k B w w2 := by
  obtain ⟨x', h1, h2, h3, h4, h5⟩ := h
  refine ⟨x', h1, h2, h3, (Chg.of hb (Nat.le_refl _)).trans h4, fun j hj => ?_⟩
  rcases h5 j hj with h | h | h
  · exact .inl h
  · exact .inr (.inl h)
  · exact .inr (.inr (Nat.le_trans hb.size h))
theorem Done.free {x : TrD} {G : GD} {k : Nat} {B : List Nat} {w w1 : World} (h : Done x G k B w w1) (hB : ∀ j ∈ B, w.heap.size ≤ j) : Done x G k [] w w1 := by
  obtain ⟨x', h1, h2, h3, h4, h5⟩ := h
  refine ⟨x', h1, h2, h3, h4, fun j hj => ?_⟩
  rcases h5 j hj with h | h | h
  · exact .inl h
  · exact .inr (.inr (hB j h))
  · exact .inr (.inr h)
/-- What is then done to a block that is none of the tree's. -/
theorem Done.only {x : TrD} {G : GD} {k : Nat} {B : List Nat} {w w1 w2 : World} {g : Nat} (h : Done x G k B w w1) (ho : Only g w1 w2) (hg : w.heap.size ≤ g) (hx : ∀ x' : TrD, TrAt w1 x' → (∀ j ∈ x'.blocks, j ∈ x.blocks ∨ j ∈ B ∨ w.heap.size ≤ j) → g ∉ x'.blocks) : Done x G k B w w2 := by
  obtain ⟨x', h1, h2, h3, h4, h5⟩ := h
  refine ⟨x', h1, h2.chg (Chg.only ho) (fun j hj hm => ?_), h3, h4.then (Chg.only ho) (fun i hi => .inr (by rw [List.mem_singleton.1 hi]; exact hg)), h5⟩
  rw [List.mem_singleton.1 hm] at hj
  exact hx x' h2 h5 hj

theorem parD_snoc {p : ByteArray} {l : PathD} {c : ByteArray} (hs : splitD p = (l ++ [c], 0)) : parD p = ⟨joinD l, c, 0⟩ := by
  rw [parD_ok (by rw [hs]) (by rw [hs]; exact snoc_ne l c), hs]
  simp
theorem lead_snoc {M : MoD} {G : GD} {k : Nat} (h : Rel M G k) {p : ByteArray} {l : PathD} {c : ByteArray} {d : Nat} (hs : splitD p = (l ++ [c], 0)) (hl : atE G l = some d) : leadM M (joinD l) = ((d : Int), 0) := by
  have hf := front_names (p := p) (by rw [hs])
  rw [hs] at hf
  simp only [List.dropLast_concat] at hf
  rw [lead_rel h, leadG_of h.wf (by rw [hf]) (n := d) (by rw [hf]; exact hl)]

section
variable {x : TrD} {G : GD} {k : Nat} {w : World} (h : TrAt w x) (hr : Rel x.M G k) (hk : k ≤ 1000000)
include h hr hk
set_option maxRecDepth 100000 in
set_option maxHeartbeats 2000000 in
theorem spot_any (p : ByteArray) (hp : p.size ≤ 100000) {l : PathD} {c : ByteArray} {d : Nat} {r : RowD} {me : Nat} (hs : splitD p = (l ++ [c], 0)) (hl : atE G l = some d) (hrr : findL x.rows (d : Int) = some r) (hme : r.em = some me) :
    Calls Tryz.prog 72 #[.pointer (some ⟨x.b, 0, none⟩), .string p] w fun e w' => e = .returned (spotV (some me) c) ∧ Below w.heap.size w w' := by
  have hpa := parent_any p hp
  rw [parD_snoc hs] at hpa
  unfold parV at hpa
  dsimp only at hpa
  have HPA := Lib.hid hpa
  have hz : (joinD l).size ≤ 100000 := by
    have := parD_len p (by rw [parD_snoc hs])
    rw [parD_snoc hs] at this
    exact Nat.le_trans this hp
  have HLA := Lib.hid (fun W (q : TrAt W x) => lead_any q hr hk (joinD l) hz)
  rw [lead_snoc hr hs hl] at HLA
  have hnb := hr.numB (n := (d : Int)) (t := r.t) (by rw [x.find, hrr]; rfl)
  have HNB : Hid (0 ≤ (d : Int) ∧ (d : Int) ≤ 4611686018427387904) := ⟨hnb.1, by omega⟩
  obtain ⟨g, hg⟩ : ∃ g, g = w.heap.size := ⟨_, rfl⟩
  have HG := Lib.hid hg
  have HRR := Lib.hid hrr
  have HME := Lib.hid hme
  have HW0 := Lib.hid ((Below.refl w.heap.size w).alloc (Nat.le_refl _) (.cells #[.map none, .string ⟨#[]⟩] 106 (0, 0)))
  have HB0 := Lib.hid (Box.new w 106 #[.map none, .string ⟨#[]⟩])
  have HS0 : Hid (g < (w.alloc (.cells #[.map none, .string ⟨#[]⟩] 106 (0, 0))).heap.size) := by show _ < _; rw [size_alloc]; omega
  have HT0 := Lib.hid (h.keep HW0.out)
  generalize joinD l = pl at *
  clear hpa hz hnb h hr hk hp hs hl hrr hme
  go_enter Tryz.func72, Tryz.ntmps72
  go_wp2_with fail
  rw [← hg] at HB0 HW0 ⊢
  clear hg
  generalize World.alloc w _ = w0 at *
  refine (HPA.out _).mono ?_
  rintro e1 w1 ⟨rfl, hb⟩
  have HB1 := Lib.hid (HB0.out.keep hb HS0.out)
  have HW1 := Lib.hid (HW0.out.trans (hb.mono (Nat.le_of_lt HS0.out)))
  have HT1 := Lib.hid (HT0.out.keep hb)
  have HS1 : Hid (g < w1.heap.size) := Nat.lt_of_lt_of_le HS0.out hb.size
  clear hb HB0 HW0 HT0 HS0 HPA
  go_wp2_with fail
  refine (HLA.out _ HT1.out).mono ?_
  rintro e1 w2 ⟨rfl, hb⟩
  have HB2 := Lib.hid (HB1.out.keep hb HS1.out)
  have HW2 := Lib.hid (HW1.out.trans (hb.mono (Nat.le_of_lt HS1.out)))
  have HT2 := Lib.hid (HT1.out.keep hb)
  have HS2 : Hid (g < w2.heap.size) := Nat.lt_of_lt_of_le HS1.out hb.size
  clear hb HB1 HW1 HT1 HS1 HLA
  obtain ⟨s1, s2, s3⟩ := HB2.out.st2
  have t0 : w2.cell? ⟨x.b, 0, none⟩ = some (.map (some x.m)) := HT2.out.box.cell 0 _ rfl
  have d1 : w2.cell? ⟨r.p, 1, none⟩ = some (.map (some me)) := by rw [← HME.out]; exact (HT2.out.at_ HRR.out).1.cell 1 _ rfl
  have lk1 := HT2.out.look HRR.out HNB.out.1 HNB.out.2
  go_wp2
  refine bodyPost_ret (results_cell_row rfl _ _ g 106 _ (0, 0) _ rfl (HB2.out.pt2 _ _) Tryz.underlying106 rfl sizeSpot) rfl ?_
  exact ⟨rfl, by rw [← HG.out]; exact HW2.out.trans ((only_pt2 w2 g (.map (some me)) (.string c)).below' (Nat.le_refl _) (Nat.le_of_lt HS2.out))⟩
end
end Go.Proofs.YteimpebfenpifaaGreatDoor
