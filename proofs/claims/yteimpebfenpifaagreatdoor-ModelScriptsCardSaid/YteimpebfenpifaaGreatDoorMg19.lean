/-
  Texts put together: MoJ, MoK.
-/
import Derived.Test.YteimpebfenpifaaGreatDoorMoI
namespace Go.Proofs.YteimpebfenpifaaGreatDoor
open Go Go.RowKit Go.ChangeShapes Go.WideShapes Go.ChangeAt

theorem zerosB_data (n : Nat) : pb (zerosB n) = List.replicate n 0 := by unfold zerosB; rw [pb_mk]
theorem zerosB_size (n : Nat) : (zerosB n).size = n := by rw [← pb_size, zerosB_data, List.length_replicate]
theorem sizedB_cut {s : ByteArray} {n : Nat} (h : n ≤ s.size) : sizedB s n = s.extract 0 n := by
  refine pb_ext ?_
  unfold sizedB
  rw [pb_mk, pb_cut, show n - s.size = 0 by omega]
  simp
theorem sizedB_long {s : ByteArray} {n : Nat} (h : s.size < n) : sizedB s n = s ++ zerosB (n - s.size) := by
  refine pb_ext ?_
  unfold sizedB
  rw [pb_mk, pb_append, zerosB_data, List.take_of_length_le]
  rw [List.length_append, pb_size, List.length_replicate]
  omega
theorem sizedB_size (s : ByteArray) (n : Nat) : (sizedB s n).size = n := by
  rw [← pb_size]
  unfold sizedB
  rw [pb_mk, List.length_take, List.length_append, pb_size, List.length_replicate]
  omega
theorem writB_parts {s d : ByteArray} {off : Nat} (hd : d.size ≠ 0) : writB s off d = sizedB s off ++ d ++ s.extract (off + d.size) s.size := by
  unfold writB
  rw [if_neg hd]
  refine pb_ext ?_
  rw [pb_mk, pb_append, pb_append, pb_cut]
  unfold sizedB
  rw [pb_mk]
  congr 1
  rw [List.take_of_length_le (by rw [List.length_drop]; exact Nat.le_of_eq (by rw [show s.1.toList.length = s.size from pb_size s]))]
theorem writB_size {s d : ByteArray} {off : Nat} (hs : s.size ≤ 16384) (h : off + d.size ≤ 16384) : (writB s off d).size ≤ 16384 := by
  by_cases hd : d.size = 0
  · unfold writB; rw [if_pos hd]; exact hs
  · rw [writB_parts hd, ByteArray.size_append, ByteArray.size_append, sizedB_size, ByteArray.size_extract]
    omega

set_option maxRecDepth 100000 in
set_option maxHeartbeats 1000000 in
theorem sized_any (s : ByteArray) (n : Nat) (hs : s.size ≤ 16384) (hn : n ≤ 16384) (w : World) : Calls Tryz.prog 77 #[.string s, .int .i64 n] w fun e w' => e = .returned (.string (sizedB s n)) ∧ Below w.heap.size w w' := by
  by_cases h : n ≤ s.size
  · have HR := Lib.hid (sizedB_cut h)
    have h1 : (n : Int) ≤ (s.size : Int) := by omega
    have h2 : (0 : Int) ≤ (n : Int) := by omega
    have h3 : ((n : Int)).toNat = n := Int.toNat_natCast n
    clear h hs hn
    go_enter Tryz.func77, Tryz.ntmps77
    go_wp2
    go_ret
    exact ⟨by rw [HR.out]; rfl, Below.refl _ _⟩
  · have HR := Lib.hid (sizedB_long (s := s) (n := n) (by omega))
    have h1 : ¬ (n : Int) ≤ (s.size : Int) := by omega
    obtain ⟨m, hm⟩ : ∃ m, m = n - s.size := ⟨_, rfl⟩
    rw [← hm] at HR
    have hsub : (n : Int) - (s.size : Int) = (m : Int) := by omega
    have hw : IntKind.i64.wrap ((n : Int) - (s.size : Int)) = (m : Int) := by rw [hsub]; exact IntWalk.i64_in _ ⟨by omega, by omega⟩
    have hw2 : wrap64 ((n : Int) - (s.size : Int)) = (m : Int) := by rw [hsub]; exact IntWalk.wrap64_in _ (by omega)
    have HC := Lib.hid (fun W => repz_any m (by omega) (by omega) W)
    have hcc : (9223372036854775807 < s.size + (zerosB m).size) = False := eq_false (by rw [zerosB_size]; omega)
    clear h hs hn hsub hm
    go_enter Tryz.func77, Tryz.ntmps77
    go_wp2_with fail
    refine (HC.out _).mono ?_
    rintro e w1 ⟨rfl, hb⟩
    have HB := Lib.hid hb
    clear hb
    go_wp2
    go_ret
    exact ⟨by rw [HR.out]; rfl, HB.out⟩

set_option maxRecDepth 100000 in
set_option maxHeartbeats 1000000 in
theorem written_any (s d : ByteArray) (off : Nat) (hs : s.size ≤ 16384) (hn : off + d.size ≤ 16384) (w : World) : Calls Tryz.prog 76 #[.string s, .int .i64 off, .string d] w fun e w' => e = .returned (.string (writB s off d)) ∧ Below w.heap.size w w' := by
  by_cases hd : d.size = 0
  · have HR : Hid (writB s off d = s) := by unfold writB; exact if_pos hd
    have hq : (d.toList == []) = true := by
      rw [ByteArray.toList_eq]
      have : d.data.toList.length = 0 := by simpa using hd
      rw [List.eq_nil_of_length_eq_zero this]; rfl
    clear hd hs hn
    go_enter Tryz.func76, Tryz.ntmps76
    go_wp2
    go_ret
    exact ⟨by rw [HR.out]; rfl, Below.refl _ _⟩
  · have HR := Lib.hid (writB_parts (s := s) (off := off) hd)
    have hq : (d.toList == []) = false := by
      rw [ByteArray.toList_eq, beq_eq_false_iff_ne]
      intro e
      exact hd (by have := congrArg List.length e; simpa using this)
    have hw : IntKind.i64.wrap ((off : Int) + (d.size : Int)) = (off : Int) + (d.size : Int) := IntWalk.i64_in _ ⟨by omega, by omega⟩
    have HC := Lib.hid (fun W => sized_any s off hs (by omega) W)
    have hz := sizedB_size s off
    generalize sizedB s off = Z at *
    have hc1 : (9223372036854775807 < Z.size + d.size) = False := eq_false (by omega)
    by_cases hb : off + d.size < s.size
    · have h1 : (off : Int) + (d.size : Int) < (s.size : Int) := by omega
      have h2 : (0 : Int) ≤ (off : Int) + (d.size : Int) := by omega
      have h3 : (off : Int) + (d.size : Int) ≤ (s.size : Int) := by omega
      have h4 : ((off : Int) + (d.size : Int)).toNat = off + d.size := by omega
      have hbz : (s.extract (off + d.size) s.size).size ≤ 16384 := by rw [ByteArray.size_extract]; omega
      obtain ⟨Y, hY⟩ : ∃ Y, s.extract (off + d.size) s.size = Y := ⟨_, rfl⟩
      rw [hY] at HR hbz
      have hc2 : (9223372036854775807 < (Z ++ d).size + Y.size) = False := eq_false (by rw [ByteArray.size_append]; omega)
      have hc3 : (9223372036854775807 < Z.size + d.size + Y.size) = False := eq_false (by omega)
      clear hd hs hn hb hz
      go_enter Tryz.func76, Tryz.ntmps76
      go_wp2_with fail
      refine (HC.out _).mono ?_
      rintro e w1 ⟨rfl, hb⟩
      have HB := Lib.hid hb
      clear hb
      go_wp2
      go_ret
      exact ⟨by rw [HR.out]; rfl, HB.out⟩
    · have h1 : ¬ (off : Int) + (d.size : Int) < (s.size : Int) := by omega
      have hc2 : (9223372036854775807 < (Z ++ d).size) = False := eq_false (by rw [ByteArray.size_append]; omega)
      have HE : Hid (s.extract (off + d.size) s.size = noB) := by
        refine pb_ext ?_
        rw [pb_cut, List.drop_of_length_le (by rw [pb_size]; omega), List.take_nil]
        rfl
      clear hd hs hn hb hz
      go_enter Tryz.func76, Tryz.ntmps76
      go_wp2_with fail
      refine (HC.out _).mono ?_
      rintro e w1 ⟨rfl, hb⟩
      have HB := Lib.hid hb
      clear hb
      go_wp2
      go_ret
      exact ⟨by rw [HR.out, HE.out]; rfl, HB.out⟩
end Go.Proofs.YteimpebfenpifaaGreatDoor

namespace Go.Proofs.YteimpebfenpifaaGreatDoor
open Go Go.RowKit Go.ChangeShapes Go.WideShapes Go.ChangeAt

abbrev opA (o : OpD) : Array Value := #[.int .i64 o.do_, .string o.path, .string o.dst, .int .i64 o.off, .int .i64 o.len, .string o.data]
def opV (o : OpD) : Value := .agg (opA o)
abbrev ansZ : Array Value := #[.int .i64 0, .int .i64 0, .string ⟨#[]⟩, .slice none 0 0]
/-- What an op answers, and leaves. -/
def OpRes (x : TrD) (k : Nat) (w : World) (q : AnsD × GD) (e : Ending) (w' : World) : Prop :=
  ∃ v x', e = .returned (ansV q.1.code q.1.n q.1.data v) ∧ Ks w' w.heap.size v q.1.names ∧ x'.b = x.b ∧ TrAt w' x' ∧ Rel x'.M q.2 (k + 1) ∧ Chg x.blocks w w' ∧ (∀ j ∈ x'.blocks, j ∈ x.blocks ∨ w.heap.size ≤ j) ∧ ∀ j, v.ownBlock = some j → j ∉ x'.blocks
theorem OpRes.done {x : TrD} {k : Nat} {w w' : World} {q : AnsD × GD} {c n : Int} {d : ByteArray} (hq : q.1 = ⟨c, n, d, []⟩) (h : Done x q.2 (k + 1) [] w w') : OpRes x k w q (.returned (ansV c n d nilS)) w' := by
  obtain ⟨x', h1, h2, h3, h4, h5⟩ := h
  refine ⟨nilS, x', by rw [hq], by rw [hq]; exact Ks.nil _ _, h1, h2, h3, h4, fun j hj => ?_, fun j hj => by cases hj⟩
  rcases h5 j hj with e | e | e
  · exact .inl e
  · cases e
  · exact .inr e
/-- The op's own copy in block g, the answer's place in block a. -/
structure Fr (w : World) (g a : Nat) (o : OpD) (w' : World) : Prop where
  bo : Box w' g 36 (opA o)
  ba : Box w' a 33 ansZ
  bl : Below g w w'
  ga : a = g + 1
  gw : g = w.heap.size
theorem Fr.new (w : World) (o : OpD) : Fr w w.heap.size (w.heap.size + 1) o ((w.alloc (.cells (opA o) 36 (0, 0))).alloc (.cells ansZ 33 (0, 0))) := by
  refine ⟨(Box.new w _ _).alloc _, ?_, ((Below.refl _ _).alloc (Nat.le_refl _) _).alloc (by rw [size_alloc]; omega) _, rfl, rfl⟩
  have := Box.new (w.alloc (.cells (opA o) 36 (0, 0))) 33 ansZ
  rw [size_alloc] at this
  exact this
theorem Fr.keep {w w1 w2 : World} {g a : Nat} {o : OpD} (h : Fr w g a o w1) (hb : Below w1.heap.size w1 w2) : Fr w g a o w2 :=
  ⟨h.bo.keep hb h.bo.lt, h.ba.keep hb h.ba.lt, h.bl.trans (hb.mono (Nat.le_of_lt h.bo.lt)), h.ga, h.gw⟩
theorem Fr.drew {w w1 : World} {g a : Nat} {o : OpD} (h : Fr w g a o w1) : Fr w g a o w1.drew := ⟨h.bo, h.ba, ⟨h.bl.os, h.bl.tape, h.bl.output, h.bl.size, h.bl.block⟩, h.ga, h.gw⟩
theorem Fr.chg {w w1 w2 : World} {g a : Nat} {o : OpD} {S : List Nat} (h : Fr w g a o w1) (hc : Chg S w1 w2) (hS : ∀ k ∈ S, k < g) : Box w2 g 36 (opA o) ∧ Box w2 a 33 ansZ :=
  ⟨h.bo.of (hc.block g h.bo.lt (fun e => by have := hS g e; omega)), h.ba.of (hc.block a h.ba.lt (fun e => by have := hS a e; have := h.ga; omega))⟩
theorem Fr.toW {w w1 : World} {g a : Nat} {o : OpD} (h : Fr w g a o w1) : Below w.heap.size w w1 := by have := h.bl; rw [h.gw] at this; exact this
/-- The answer is stored. -/
theorem Fr.put {w w1 : World} {g a : Nat} {o : OpD} (h : Fr w g a o w1) (p q r s : Value) : Below w.heap.size w ((((w1.setCell ⟨a, 0, none⟩ p).setCell ⟨a, 1, none⟩ q).setCell ⟨a, 2, none⟩ r).setCell ⟨a, 3, none⟩ s) :=
  h.toW.trans ((only_pt4 w1 a p q r s).below' (by have := h.ga; have := h.gw; omega) (by have := h.bo.lt; have := h.gw; omega))
theorem OpRes.refuse {x : TrD} {G : GD} {k : Nat} {w w1 : World} {g a : Nat} {o : OpD} {q : AnsD × GD} {c : Int} (h : TrAt w x) (hr : Rel x.M G k) (hq : q = (noA c, G)) (hf : Fr w g a o w1) (u v y z : Value) :
    OpRes x k w q (.returned (ansV c 0 noB nilS)) ((((w1.setCell ⟨a, 0, none⟩ u).setCell ⟨a, 1, none⟩ v).setCell ⟨a, 2, none⟩ y).setCell ⟨a, 3, none⟩ z) := by
  subst hq
  exact OpRes.done rfl (Done.same h hr (hf.put _ _ _ _) _)
theorem OpRes.tell {x : TrD} {G : GD} {k : Nat} {w w1 : World} {g a : Nat} {o : OpD} {q : AnsD × GD} {c n : Int} {d : ByteArray} (h : TrAt w x) (hr : Rel x.M G k) (hq : q = (⟨c, n, d, []⟩, G)) (hf : Fr w g a o w1) (u v y z : Value) :
    OpRes x k w q (.returned (ansV c n d nilS)) ((((w1.setCell ⟨a, 0, none⟩ u).setCell ⟨a, 1, none⟩ v).setCell ⟨a, 2, none⟩ y).setCell ⟨a, 3, none⟩ z) := by
  subst hq
  exact OpRes.done rfl (Done.same h hr (hf.put _ _ _ _) _)

/-! ### the ways of file, directory, lead -/
theorem file_cases {M : MoD} {G : GD} {k : Nat} (h : Rel M G k) (p : ByteArray) : (∃ n e, fileM M p = (n, e) ∧ e ≠ 0 ∧ ∀ K, fileG G p K = (noA e, G)) ∨
    (∃ (n : Nat) (t : ThD), fileM M p = ((n : Int), 0) ∧ (splitD p).2 = 0 ∧ atE G (splitD p).1 = some n ∧ findL M.l (n : Int) = some t ∧ t.dir = false ∧ ∀ K, fileG G p K = K n) := by
  rw [file_rel h]
  unfold fileG
  by_cases h0 : (leadG G p).2 = 0
  · have ha := leadG_at h0
    obtain ⟨t, ht, _, _, h3⟩ := h.dirO ha.2
    by_cases h1 : dirG G (leadG G p).1 = true
    · refine .inl ⟨0, 10, by rw [if_pos ⟨h0, h1⟩], by decide, fun K => ?_⟩
      rw [if_neg (fun e => e h0), if_pos h1]
    · refine .inr ⟨(leadG G p).1, t, by rw [if_neg (fun e => h1 e.2), h0], ha.1, ha.2, ht, by rw [← h3]; simpa using h1, fun K => ?_⟩
      rw [if_neg (fun e => e h0), if_neg h1]
  · refine .inl ⟨_, _, by rw [if_neg (fun e => h0 e.1)], h0, fun K => ?_⟩
    rw [if_pos h0]
theorem dir_cases {M : MoD} {G : GD} {k : Nat} (h : Rel M G k) (p : ByteArray) : (∃ n e, dirM M p = (n, e) ∧ e ≠ 0 ∧ (((leadG G p).2 ≠ 0 ∧ e = (leadG G p).2) ∨ ((leadG G p).2 = 0 ∧ dirG G (leadG G p).1 = false ∧ e = 11))) ∨
    (∃ (n : Nat) (t : ThD), dirM M p = ((n : Int), 0) ∧ (splitD p).2 = 0 ∧ atE G (splitD p).1 = some n ∧ findL M.l (n : Int) = some t ∧ t.dir = true ∧ (leadG G p).2 = 0 ∧ (leadG G p).1 = n ∧ dirG G n = true) := by
  rw [dir_rel h]
  by_cases h0 : (leadG G p).2 = 0
  · have ha := leadG_at h0
    obtain ⟨t, ht, _, _, h3⟩ := h.dirO ha.2
    by_cases h1 : dirG G (leadG G p).1 = false
    · exact .inl ⟨0, 11, by rw [if_pos ⟨h0, h1⟩], by decide, .inr ⟨h0, h1, rfl⟩⟩
    · have h2 : dirG G (leadG G p).1 = true := by simpa using h1
      exact .inr ⟨(leadG G p).1, t, by rw [if_neg (fun e => h1 e.2), h0], ha.1, ha.2, ht, by rw [← h3]; exact h2, h0, rfl, h2⟩
  · exact .inl ⟨_, _, by rw [if_neg (fun e => h0 e.1)], h0, .inl ⟨h0, rfl⟩⟩
theorem lead_cases {M : MoD} {G : GD} {k : Nat} (h : Rel M G k) (p : ByteArray) : (∃ n e, leadM M p = (n, e) ∧ e ≠ 0 ∧ (leadG G p).2 = e) ∨
    (∃ (n : Nat) (t : ThD), leadM M p = ((n : Int), 0) ∧ (splitD p).2 = 0 ∧ atE G (splitD p).1 = some n ∧ findL M.l (n : Int) = some t ∧ (leadG G p).2 = 0 ∧ (leadG G p).1 = n ∧ dirG G n = t.dir) := by
  rw [lead_rel h]
  by_cases h0 : (leadG G p).2 = 0
  · have ha := leadG_at h0
    obtain ⟨t, ht, _, _, h3⟩ := h.dirO ha.2
    exact .inr ⟨(leadG G p).1, t, by rw [h0], ha.1, ha.2, ht, h0, rfl, h3⟩
  · exact .inl ⟨_, _, rfl, h0, rfl⟩
/-- A path that may be, and is not `/`. -/
theorem snoc_of {p : ByteArray} (h : (splitD p).2 = 0) (h2 : (splitD p).1 ≠ []) : ∃ l c, splitD p = (l ++ [c], 0) ∧ nameD c := by
  rcases List.eq_nil_or_concat (splitD p).1 with e | ⟨l, c, e⟩
  · exact absurd e h2
  · rw [List.concat_eq_append] at e
    exact ⟨l, c, Prod.ext e h, names_ok h c (by rw [e]; simp)⟩
theorem Rel.parent {M : MoD} {G : GD} {k : Nat} (h : Rel M G k) {l : PathD} {c : ByteArray} {n : Nat} (hn : atE G (l ++ [c]) = some n) : ∃ (d : Nat) (t : ThD), atE G l = some d ∧ findL M.l (d : Int) = some t ∧ t.dir = true ∧ dirG G d = true := by
  obtain ⟨d, h1, h2⟩ := h.wf.par l c (by rw [hn]; rfl)
  obtain ⟨t, ht, _, _, h3⟩ := h.dirO h1
  exact ⟨d, t, h1, ht, by rw [← h3]; exact h2, h2⟩
end Go.Proofs.YteimpebfenpifaaGreatDoor
