/-
  Texts put together: MoLw, MoSm, MoCl.
-/
import Derived.Test.YteimpebfenpifaaGreatDoorMoCq
import Derived.Test.YteimpebfenpifaaGreatDoorMg4
namespace Go.Proofs.YteimpebfenpifaaGreatDoor
open Go Go.RowKit Go.ChangeShapes Go.WideShapes Go.ChangeAt

/-- The blocks K stay as they are. -/
structure Kp (K : Nat → Prop) (w w' : World) : Prop where
  os : w'.os = w.os
  tape : w'.tape = w.tape
  output : w'.output = w.output
  size : w.heap.size ≤ w'.heap.size
  block : ∀ j, K j → j < w.heap.size → w'.heap[j]? = w.heap[j]?
theorem Kp.refl (K : Nat → Prop) (w : World) : Kp K w w := ⟨rfl, rfl, rfl, Nat.le_refl _, fun _ _ _ => rfl⟩
theorem Kp.trans {K : Nat → Prop} {w w1 w2 : World} (h : Kp K w w1) (k : Kp K w1 w2) : Kp K w w2 :=
  ⟨k.os.trans h.os, k.tape.trans h.tape, k.output.trans h.output, Nat.le_trans h.size k.size, fun j hj hl => (k.block j hj (Nat.lt_of_lt_of_le hl h.size)).trans (h.block j hj hl)⟩
theorem Kp.mono {K K' : Nat → Prop} {w w' : World} (h : Kp K w w') (hk : ∀ j, K' j → K j) : Kp K' w w' := ⟨h.os, h.tape, h.output, h.size, fun j hj hl => h.block j (hk j hj) hl⟩
theorem Kp.of {K : Nat → Prop} {w w' : World} (h : Below w.heap.size w w') : Kp K w w' := ⟨h.os, h.tape, h.output, h.size, fun j _ hl => h.block j hl⟩
theorem Kp.below {K : Nat → Prop} {w w' : World} {B : Nat} (h : Kp K w w') (hB : B ≤ w.heap.size) (hK : ∀ j, j < B → K j) : Below B w w' := ⟨h.os, h.tape, h.output, h.size, fun j hj => h.block j (hK j hj) (Nat.lt_of_lt_of_le hj hB)⟩
theorem Kp.box {K : Nat → Prop} {w w' : World} {a : Nat} {t : TypeId} {cs : Array Value} (h : Kp K w w') (hb : Box w a t cs) (hk : K a) : Box w' a t cs := hb.of (h.block a hk hb.lt)
theorem Kp.ks {K : Nat → Prop} {w w' : World} {B : Nat} {v : Value} {l : List ByteArray} (h : Kp K w w') (hv : Ks w B v l) (hk : ∀ j, v.ownBlock = some j → K j) : Ks w' B v l := ownsRow_of hv fun j hj hl => h.block j (hk j hj) hl
theorem Kp.it {K : Nat → Prop} {w w' : World} (h : Kp K w w') (hI : It w) (hk : K 3) : It w' := hI.of (h.block _ hk hI.lt)

/-- The tree at b tells G; the blocks K are none of its own. -/
def TK (b : Nat) (G : GD) (k : Nat) (K : Nat → Prop) (w : World) : Prop := ∃ x : TrD, x.b = b ∧ TrAt w x ∧ Rel x.M G k ∧ ∀ j, K j → j < w.heap.size ∧ j ∉ x.blocks
theorem TK.mono {b : Nat} {G : GD} {k : Nat} {K K' : Nat → Prop} {w : World} (h : TK b G k K w) (hk : ∀ j, K' j → K j) : TK b G k K' w := by
  obtain ⟨x, h1, h2, h3, h4⟩ := h
  exact ⟨x, h1, h2, h3, fun j hj => h4 j (hk j hj)⟩
theorem TK.keep {b : Nat} {G : GD} {k : Nat} {K : Nat → Prop} {w w' : World} (h : TK b G k K w) (hb : Below w.heap.size w w') : TK b G k K w' := by
  obtain ⟨x, h1, h2, h3, h4⟩ := h
  exact ⟨x, h1, h2.keep hb, h3, fun j hj => ⟨Nat.lt_of_lt_of_le (h4 j hj).1 hb.size, (h4 j hj).2⟩⟩
theorem TK.drew {b : Nat} {G : GD} {k : Nat} {K : Nat → Prop} {w : World} (h : TK b G k K w) : TK b G k K w.drew := h.keep ⟨rfl, rfl, rfl, Nat.le_refl _, fun _ _ => rfl⟩
theorem TK.lt {b : Nat} {G : GD} {k : Nat} {K : Nat → Prop} {w : World} (h : TK b G k K w) {j : Nat} (hj : K j) : j < w.heap.size := by
  obtain ⟨x, h1, h2, h3, h4⟩ := h
  exact (h4 j hj).1
/-- A call's new block joins what stays. -/
theorem TK.more {b : Nat} {G : GD} {k : Nat} {K : Nat → Prop} {w w' : World} (h : TK b G k K w) (hb : Below w.heap.size w w') (N : Nat → Prop) (hN : ∀ j, N j → w.heap.size ≤ j ∧ j < w'.heap.size) : TK b G k (fun j => K j ∨ N j) w' := by
  obtain ⟨x, h1, h2, h3, h4⟩ := h
  refine ⟨x, h1, h2.keep hb, h3, fun j hj => ?_⟩
  rcases hj with hj | hj
  · exact ⟨Nat.lt_of_lt_of_le (h4 j hj).1 hb.size, (h4 j hj).2⟩
  · exact ⟨(hN j hj).2, fun hm => by have := h2.lt j hm; have := (hN j hj).1; omega⟩
theorem TK.alloc {b : Nat} {G : GD} {k : Nat} {K : Nat → Prop} {w : World} (h : TK b G k K w) (o : Obj) : TK b G k (fun j => K j ∨ j = w.heap.size) (w.alloc o) :=
  h.more ((Below.refl _ _).alloc (Nat.le_refl _) _) (fun j => j = w.heap.size) (fun j hj => by rw [size_alloc]; omega)
theorem tk_new (w : World) : Calls Tryz.prog 12 #[] w fun e w' => ∃ b, e = .returned (.pointer (some ⟨b, 0, none⟩)) ∧ TK b newG 0 (fun j => j < w.heap.size) w' ∧ Below w.heap.size w w' := by
  refine (new_any w).mono ?_
  rintro e w' ⟨x, rfl, h1, h2, h3, h4⟩
  exact ⟨x.b, rfl, ⟨x, rfl, h1, h2, fun j hj => ⟨Nat.lt_of_lt_of_le hj h3.size, fun hm => by have := h4 j hm; omega⟩⟩, h3⟩
theorem tk_do {b : Nat} {G : GD} {k : Nat} {K : Nat → Prop} {w : World} (h : TK b G k K w) (hk : k ≤ 1000000) (o : OpD) (hp : o.path.size ≤ 100000) (hp2 : o.dst.size ≤ 100000) (hp3 : o.data.size ≤ 1000000) (hI : It w) :
    Calls Tryz.prog 17 #[.pointer (some ⟨b, 0, none⟩), opV o] w fun e w' => ∃ va vc, e = .returned (ansV (doG G o).1.code (doG G o).1.n (doG G o).1.data (.slice va (doG G o).1.names.length vc)) ∧
      Ks w' w.heap.size (.slice va (doG G o).1.names.length vc) (doG G o).1.names ∧ Kp K w w' ∧ TK b (doG G o).2 (k + 1) (fun j => K j ∨ (Value.slice va (doG G o).1.names.length vc).ownBlock = some j) w' := by
  obtain ⟨x, rfl, h2, h3, h4⟩ := h
  refine (do_any h2 h3 hk o hp hp2 hp3 hI).mono ?_
  rintro e w' ⟨v, x', rfl, hks, hb, hat, hrel, hchg, hblk, hv⟩
  obtain ⟨va, vc, rfl, _, _⟩ := hks.shape
  refine ⟨va, vc, rfl, hks, ⟨hchg.os, hchg.tape, hchg.output, hchg.size, fun j hj hl => hchg.block j hl (h4 j hj).2⟩, x', hb, hat, hrel, fun j hj => ?_⟩
  rcases hj with hj | hj
  · refine ⟨Nat.lt_of_lt_of_le (h4 j hj).1 hchg.size, fun hm => ?_⟩
    rcases hblk j hm with q | q
    · exact (h4 j hj).2 q
    · have := (h4 j hj).1; omega
  · exact ⟨hks.lt j hj, hv j hj⟩
theorem tk_count {b : Nat} {G : GD} {k : Nat} {K : Nat → Prop} {w : World} (h : TK b G k K w) (hk : k ≤ 1000000) : Calls Tryz.prog 19 #[.pointer (some ⟨b, 0, none⟩)] w fun e w' => e = .returned (.tuple #[.int .i64 (countG G).1, .int .i64 (countG G).2.1, .int .i64 (countG G).2.2]) ∧ Below w.heap.size w w' := by
  obtain ⟨x, rfl, h2, h3, h4⟩ := h
  exact count_any h2 h3 hk
/-- Two trees, apart. -/
def T2 (b : Nat) (G : GD) (k : Nat) (b2 : Nat) (G2 : GD) (k2 : Nat) (K : Nat → Prop) (w : World) : Prop :=
  ∃ y : TrD, y.b = b2 ∧ TrAt w y ∧ Rel y.M G2 k2 ∧ TK b G k (fun j => K j ∨ j ∈ y.blocks) w ∧ ∀ j, K j → j ∉ y.blocks
theorem T2.swap {b : Nat} {G : GD} {k : Nat} {b2 : Nat} {G2 : GD} {k2 : Nat} {K : Nat → Prop} {w : World} (h : T2 b G k b2 G2 k2 K w) : T2 b2 G2 k2 b G k K w := by
  obtain ⟨y, h1, h2, h3, ⟨x, k1, k2, k3, k4⟩, h5⟩ := h
  refine ⟨x, k1, k2, k3, ⟨y, h1, h2, h3, fun j hj => ?_⟩, fun j hj => (k4 j (.inl hj)).2⟩
  rcases hj with hj | hj
  · exact ⟨(k4 j (.inl hj)).1, h5 j hj⟩
  · exact ⟨k2.lt j hj, fun hm => (k4 j (.inr hm)).2 hj⟩
theorem T2.one {b : Nat} {G : GD} {k : Nat} {b2 : Nat} {G2 : GD} {k2 : Nat} {K : Nat → Prop} {w : World} (h : T2 b G k b2 G2 k2 K w) : TK b G k K w := by
  obtain ⟨y, h1, h2, h3, h4, h5⟩ := h
  exact h4.mono (fun j hj => .inl hj)
theorem T2.keep {b : Nat} {G : GD} {k : Nat} {b2 : Nat} {G2 : GD} {k2 : Nat} {K : Nat → Prop} {w w' : World} (h : T2 b G k b2 G2 k2 K w) (hb : Below w.heap.size w w') : T2 b G k b2 G2 k2 K w' := by
  obtain ⟨y, h1, h2, h3, h4, h5⟩ := h
  exact ⟨y, h1, h2.keep hb, h3, h4.keep hb, h5⟩
theorem T2.mono {b : Nat} {G : GD} {k : Nat} {b2 : Nat} {G2 : GD} {k2 : Nat} {K K' : Nat → Prop} {w : World} (h : T2 b G k b2 G2 k2 K w) (hk : ∀ j, K' j → K j) : T2 b G k b2 G2 k2 K' w := by
  obtain ⟨y, h1, h2, h3, h4, h5⟩ := h
  exact ⟨y, h1, h2, h3, h4.mono (fun j hj => hj.elim (fun q => .inl (hk j q)) .inr), fun j hj => h5 j (hk j hj)⟩
theorem T2.more {b : Nat} {G : GD} {k : Nat} {b2 : Nat} {G2 : GD} {k2 : Nat} {K : Nat → Prop} {w w' : World} (h : T2 b G k b2 G2 k2 K w) (hb : Below w.heap.size w w') (N : Nat → Prop) (hN : ∀ j, N j → w.heap.size ≤ j ∧ j < w'.heap.size) : T2 b G k b2 G2 k2 (fun j => K j ∨ N j) w' := by
  obtain ⟨y, h1, h2, h3, h4, h5⟩ := h
  refine ⟨y, h1, h2.keep hb, h3, (h4.more hb N hN).mono (fun j hj => ?_), fun j hj => ?_⟩
  · rcases hj with (q | q) | q
    · exact .inl (.inl q)
    · exact .inr q
    · exact .inl (.inr q)
  · rcases hj with q | q
    · exact h5 j q
    · exact fun hm => by have := h2.lt j hm; have := (hN j q).1; omega
theorem tk_copy {b : Nat} {G : GD} {k : Nat} {K : Nat → Prop} {w : World} (h : TK b G k K w) (hk : k ≤ 1000000) : Calls Tryz.prog 14 #[.pointer (some ⟨b, 0, none⟩)] w fun e w' => ∃ b2, e = .returned (.pointer (some ⟨b2, 0, none⟩)) ∧ T2 b G k b2 G k K w' ∧ Below w.heap.size w w' := by
  obtain ⟨x, rfl, h2, h3, h4⟩ := h
  refine (copy_any h2 h3 hk).mono ?_
  rintro e w' ⟨y, rfl, q1, q2, q3, q4⟩
  refine ⟨y.b, rfl, ⟨y, rfl, q1, q2, ⟨x, rfl, h2.keep q3, h3, fun j hj => ?_⟩, fun j hj hm => ?_⟩, q3⟩
  · rcases hj with hj | hj
    · exact ⟨Nat.lt_of_lt_of_le (h4 j hj).1 q3.size, (h4 j hj).2⟩
    · exact ⟨q1.lt j hj, fun hm => by have := h2.lt j hm; have := q4 j hj; omega⟩
  · have := q4 j hm
    have := (h4 j hj).1
    omega
theorem t2_do {b : Nat} {G : GD} {k : Nat} {b2 : Nat} {G2 : GD} {k2 : Nat} {K : Nat → Prop} {w : World} (h : T2 b G k b2 G2 k2 K w) (hk : k ≤ 1000000) (o : OpD) (hp : o.path.size ≤ 100000) (hp2 : o.dst.size ≤ 100000) (hp3 : o.data.size ≤ 1000000) (hI : It w) :
    Calls Tryz.prog 17 #[.pointer (some ⟨b, 0, none⟩), opV o] w fun e w' => ∃ va vc, e = .returned (ansV (doG G o).1.code (doG G o).1.n (doG G o).1.data (.slice va (doG G o).1.names.length vc)) ∧
      Ks w' w.heap.size (.slice va (doG G o).1.names.length vc) (doG G o).1.names ∧ Kp K w w' ∧ T2 b (doG G o).2 (k + 1) b2 G2 k2 (fun j => K j ∨ (Value.slice va (doG G o).1.names.length vc).ownBlock = some j) w' := by
  obtain ⟨y, h1, h2, h3, h4, h5⟩ := h
  refine (tk_do h4 hk o hp hp2 hp3 hI).mono ?_
  rintro e w' ⟨va, vc, rfl, hks, hkp, htk⟩
  refine ⟨va, vc, rfl, hks, hkp.mono (fun j hj => .inl hj), y, h1, h2.of (fun j hj => hkp.block j (.inr hj) (h2.lt j hj)), h3, htk.mono (fun j hj => ?_), fun j hj => ?_⟩
  · rcases hj with (q | q) | q
    · exact .inl (.inl q)
    · exact .inr q
    · exact .inl (.inr q)
  · rcases hj with q | q
    · exact h5 j q
    · exact fun hm => by have := h2.lt j hm; have := hks.own_block j q; omega
end Go.Proofs.YteimpebfenpifaaGreatDoor

namespace Go.Proofs.YteimpebfenpifaaGreatDoor
open Go Go.RowKit Go.ChangeShapes Go.WideShapes Go.ChangeAt

theorem ans_ext (q r : AnsD) : q = r ↔ q.code = r.code ∧ q.n = r.n ∧ q.data = r.data ∧ q.names = r.names := by
  cases q; cases r; simp
set_option maxRecDepth 100000 in
set_option maxHeartbeats 4000000 in
theorem same_ans (q r : AnsD) (va vb : Option Addr) (ca cb : Nat) (w : World) (ha : Sl w Value.string va q.names) (hb : Sl w Value.string vb r.names) (hl : q.names.length ≤ 100000) :
    Calls Tryz.prog 16 #[ansV q.code q.n q.data (.slice va q.names.length ca), ansV r.code r.n r.data (.slice vb r.names.length cb)] w fun e w' => e = .returned (.bool (decide (q = r))) ∧ Below w.heap.size w w' := by
  obtain ⟨R, hR⟩ : ∃ R, R = decide (q = r) := ⟨_, rfl⟩
  rw [← hR]
  have HR := Lib.hid hR
  have HL := Lib.hid hl
  have h1 := (Below.refl w.heap.size w).alloc (Nat.le_refl _) (.cells #[.int .i64 q.code, .int .i64 q.n, .string q.data, .slice va q.names.length ca] 33 (0, 0))
  obtain ⟨w1, hw1⟩ : ∃ w1, w1 = w.alloc (.cells #[.int .i64 q.code, .int .i64 q.n, .string q.data, .slice va q.names.length ca] 33 (0, 0)) := ⟨_, rfl⟩
  have B1 : Box w1 w.heap.size 33 #[.int .i64 q.code, .int .i64 q.n, .string q.data, .slice va q.names.length ca] := by rw [hw1]; exact Box.new w _ _
  rw [← hw1] at h1
  have h2 := h1.alloc h1.size (.cells #[.int .i64 r.code, .int .i64 r.n, .string r.data, .slice vb r.names.length cb] 33 (0, 0))
  have B2 := Box.new w1 33 #[.int .i64 r.code, .int .i64 r.n, .string r.data, .slice vb r.names.length cb]
  have B1' := B1.keep ((Below.refl w1.heap.size w1).alloc (Nat.le_refl _) (.cells #[.int .i64 r.code, .int .i64 r.n, .string r.data, .slice vb r.names.length cb] 33 (0, 0))) B1.lt
  have HB := Lib.hid h2
  have SA := Lib.hid (ha.keepB h2)
  have SB := Lib.hid (hb.keepB h2)
  have c0 := B1'.cell 0 _ rfl
  have c1 := B1'.cell 1 _ rfl
  have c2 := B1'.cell 2 _ rfl
  have c3 := B1'.cell 3 _ rfl
  have d0 := B2.cell 0 _ rfl
  have d1 := B2.cell 1 _ rfl
  have d2 := B2.cell 2 _ rfl
  have d3 := B2.cell 3 _ rfl
  rw [hw1] at c0 c1 c2 c3 d0 d1 d2 d3 SA SB HB
  clear ha hb hl hR hw1 h1 h2 B1 B2 B1'
  unfold ansV
  have HT1 : Hid (R = true → q = r) := by rw [HR.out]; exact of_decide_eq_true
  have HNE : Hid (q ≠ r → R = false) := by rw [HR.out]; exact fun e => decide_eq_false e
  have HEQ : Hid (q = r → R = true) := by rw [HR.out]; exact fun e => decide_eq_true e
  clear HT1 HR
  by_cases e1 : q.code = r.code
  · have f1 : (q.code == r.code) = true := by simpa using e1
    by_cases e2 : q.n = r.n
    · have f2 : (q.n == r.n) = true := by simpa using e2
      by_cases e3 : q.data = r.data
      · have f3 : (q.data.toList == r.data.toList) = true := by rw [beq_key, e3]; simp
        have HN : Hid (decide (q.names = r.names) = R) := by
          by_cases e4 : q.names = r.names
          · rw [decide_eq_true e4, HEQ.out ((ans_ext q r).2 ⟨e1, e2, e3, e4⟩)]; exact rfl
          · rw [decide_eq_false e4, HNE.out (fun h => e4 ((ans_ext q r).1 h).2.2.2)]; exact rfl
        clear e1 e2 e3
        go_enter Tryz.func16, Tryz.ntmps16
        go_wp2_with fail
        refine (same_keys va vb ca cb q.names r.names _ SA.out SB.out HL.out).mono ?_
        rintro e w' ⟨rfl, hb⟩
        rw [HN.out]
        clear c0 c1 c2 c3 d0 d1 d2 d3
        go_wp2
        go_ret
        exact ⟨rfl, HB.out.trans (hb.mono (by rw [size_alloc, size_alloc]; omega))⟩
      · have f3 : (q.data.toList == r.data.toList) = false := by rw [beq_key]; simpa using e3
        have HN : Hid (R = false) := HNE.out (fun h => e3 ((ans_ext q r).1 h).2.2.1)
        clear e1 e2 e3
        go_enter Tryz.func16, Tryz.ntmps16
        go_wp2
        go_ret
        exact ⟨ret_bool HN.out.symm, HB.out⟩
    · have f2 : (q.n == r.n) = false := by simpa using e2
      have HN : Hid (R = false) := HNE.out (fun h => e2 ((ans_ext q r).1 h).2.1)
      clear e1 e2
      go_enter Tryz.func16, Tryz.ntmps16
      go_wp2
      go_ret
      exact ⟨ret_bool HN.out.symm, HB.out⟩
  · have f1 : (q.code == r.code) = false := by simpa using e1
    have HN : Hid (R = false) := HNE.out (fun h => e1 ((ans_ext q r).1 h).1)
    clear e1
    go_enter Tryz.func16, Tryz.ntmps16
    go_wp2
    go_ret
    exact ⟨ret_bool HN.out.symm, HB.out⟩
set_option maxRecDepth 100000 in
set_option maxHeartbeats 4000000 in
/-- What is asked of no tree. -/
theorem do_nil (o : OpD) (w : World) : Calls Tryz.prog 17 #[.pointer none, opV o] w fun e w' => e = .returned (ansV 1 0 ⟨#[]⟩ (.slice none 0 0)) ∧ Below w.heap.size w w' := by
  have HF1 : Hid (Fr w w.heap.size (w.heap.size + 1) o ((w.alloc (.cells #[.int .i64 o.do_, .string o.path, .string o.dst, .int .i64 o.off, .int .i64 o.len, .string o.data] 36 (0, 0))).alloc (.cells #[.int .i64 0, .int .i64 0, .string ⟨#[]⟩, .slice none 0 0] 33 (0, 0)))) := Fr.new w o
  obtain ⟨g, hg⟩ : ∃ g, g = w.heap.size := ⟨_, rfl⟩
  obtain ⟨a, ha⟩ : ∃ a, a = w.heap.size + 1 := ⟨_, rfl⟩
  rw [← ha, ← hg] at HF1
  unfold opV
  go_enter Tryz.func17, Tryz.ntmps17
  go_wp2_with fail
  rw [← ha, ← hg]
  have HG := Lib.hid hg
  clear ha hg
  generalize World.alloc (World.alloc w _) _ = w1 at *
  refine (doings_any _).mono ?_
  rintro e1 w2 ⟨rfl, hb⟩
  have HF2 := Lib.hid (HF1.out.keep hb)
  clear hb HF1
  have HF3 := Lib.hid (HF2.out.keep ((Below.refl w2.heap.size w2).alloc (Nat.le_refl _) (.cells #[.func (.func 44) #[] #[], .func (.func 45) #[] #[], .func (.func 46) #[] #[], .func (.func 47) #[] #[], .func (.func 48) #[] #[], .func (.func 49) #[] #[], .func (.func 50) #[] #[], .func (.func 51) #[] #[], .func (.func 52) #[] #[], .func (.func 53) #[] #[], .func (.func 54) #[] #[]] 71 (0, 0))))
  clear HF2
  unfold doingsA
  go_wp2_with (first | (refine table_store rfl _ _ rfl rfl rfl ?_) | fail)
  generalize World.alloc w2 _ = w3 at *
  refine (made_nil _).mono ?_
  rintro e1 w3' ⟨rfl, rfl⟩
  go_wp2_with fail
  refine (refused_any 1 _).mono ?_
  rintro e1 w4 ⟨rfl, hb⟩
  have HF4 := Lib.hid (HF3.out.keep hb)
  clear hb HF3
  obtain ⟨⟨s1, s2⟩, s3, s4, s5⟩ := HF4.out.ba.st4
  unfold ansV nilS
  go_wp2
  refine bodyPost_ret (results_cell_row rfl _ _ a 33 _ (0, 0) _ rfl (HF4.out.ba.pt4 _ _ _ _) Tryz.underlying33 rfl sizeAns) rfl ?_
  refine ⟨rfl, ?_⟩
  have hl := HF4.out.gw
  have h2 := HF4.out.ga
  rw [hl] at h2
  exact ((Chg.of (S := []) HF4.out.toW (Nat.le_refl _)).then (Chg.only (only_pt4 w4 a _ _ _ _)) (fun i hi => .inr (by rw [List.mem_singleton.1 hi]; omega))).below (Nat.le_refl _) (fun k hk => by cases hk)
end Go.Proofs.YteimpebfenpifaaGreatDoor

namespace Go.Proofs.YteimpebfenpifaaGreatDoor
open Go Go.RowKit

def lo1 : OpD := ⟨0, ⟨#[47, 97]⟩, noB, 0, 0, noB⟩
def lo2 : OpD := ⟨2, ⟨#[47, 97]⟩, ⟨#[47, 98]⟩, 0, 0, noB⟩
def lo3 : OpD := ⟨7, ⟨#[47, 97]⟩, noB, 2, 0, ⟨#[120, 121]⟩⟩
def lo4 : OpD := ⟨6, ⟨#[47, 98]⟩, noB, 0, 9, noB⟩
def lo5 : OpD := ⟨1, ⟨#[47, 98, 47, 99]⟩, noB, 0, 0, noB⟩
def lo6 : OpD := ⟨9, ⟨#[47, 97]⟩, noB, 0, 0, noB⟩
def lo7 : OpD := ⟨10, ⟨#[47]⟩, noB, 0, 0, noB⟩
def lo8 : OpD := ⟨5, ⟨#[47, 97]⟩, ⟨#[47, 97, 47, 120]⟩, 0, 0, noB⟩
def lg1 : GD := ⟨[([⟨#[97]⟩], 1)], [⟨true, noB⟩, ⟨false, noB⟩]⟩
def lg2 : GD := ⟨[([⟨#[97]⟩], 1), ([⟨#[98]⟩], 1)], [⟨true, noB⟩, ⟨false, noB⟩]⟩
def lg3 : GD := ⟨[([⟨#[97]⟩], 1), ([⟨#[98]⟩], 1)], [⟨true, noB⟩, ⟨false, ⟨#[0, 0, 120, 121]⟩⟩]⟩
theorem digits_two : digitsB 2 = ⟨#[50]⟩ := by
  unfold digitsB Lib.decDigits
  rfl
theorem lc1 : doG newG lo1 = (noA 0, lg1) := by decide +kernel
theorem lc2 : doG lg1 lo2 = (noA 0, lg2) := by decide +kernel
theorem lc3 : doG lg2 lo3 = (⟨0, 2, noB, []⟩, lg3) := by decide +kernel
theorem lc4 : doG lg3 lo4 = (⟨0, 4, ⟨#[0, 0, 120, 121]⟩, []⟩, lg3) := by decide +kernel
theorem lc5 : doG lg3 lo5 = (noA 11, lg3) := by decide +kernel
theorem lc6 : doG lg3 lo6 = (⟨0, 4, ⟨#[102, 105, 108, 101]⟩, [⟨#[50]⟩]⟩, lg3) := by decide +kernel
theorem lc7 : doG lg3 lo7 = (⟨0, 0, noB, [⟨#[97]⟩, ⟨#[98]⟩]⟩, lg3) := by decide +kernel
theorem lc8 : doG lg3 lo8 = (noA 1, lg3) := by decide +kernel
theorem lc9 : countG lg3 = (1, 1, 4) := by decide +kernel
end Go.Proofs.YteimpebfenpifaaGreatDoor
