/-
  Texts put together: TcL, TcM.
-/
import Derived.Test.YtbeldjijnjgbfaaTcK
namespace Go.Proofs.Ytbeldjijnjgbfaa
open Go Go.RowKit Go.ChangeShapes Go.WideShapes Go.ChangeAt

/-- A node of entries that may be, at most n of them. -/
def GdN (n : Nat) (d : NodeD) : Prop := ∃ b E, d = ofE b E ∧ OkL E ∧ E.length ≤ n
theorem GdN.mono {n m : Nat} {d : NodeD} (h : GdN n d) (hm : n ≤ m) : GdN m d := by obtain ⟨b, E, e, h1, h2⟩ := h; exact ⟨b, E, e, h1, Nat.le_trans h2 hm⟩
theorem GdN.may {n : Nat} {d : NodeD} (h : GdN n d) (hn : n ≤ 255) : mayD d = true := by obtain ⟨b, E, rfl, h1, h2⟩ := h; exact (may_iff b E).2 ⟨h1, by omega⟩
theorem GdN.sm {n : Nat} {d : NodeD} (h : GdN n d) (hn : n ≤ 255) : SmN 255 d := sm_may (h.may hn)
theorem GdN.len {n : Nat} {d : NodeD} (h : GdN n d) : d.keys.length ≤ n ∧ d.keys.length = d.vals.length := by
  obtain ⟨b, E, rfl, h1, h2⟩ := h
  simp [ofE]; exact h2
theorem gd_of {n : Nat} {d : NodeD} (h : mayD d = true) (hl : d.keys.length ≤ n) : GdN n d := by
  obtain ⟨E, e, h1, _⟩ := may_of h
  refine ⟨d.leaf, E, e, h1, ?_⟩
  have : d.keys = E.map (·.1) := by rw [e]; rfl
  rw [this, List.length_map] at hl
  exact hl
theorem okl_nil : OkL [] := ⟨List.Pairwise.nil, fun x hx => by cases hx⟩
theorem gd_nil (n : Nat) : GdN n nilD := ⟨false, [], rfl, okl_nil, Nat.zero_le _⟩
theorem gd_leaf (n : Nat) : GdN n ⟨true, [], []⟩ := ⟨true, [], rfl, okl_nil, Nat.zero_le _⟩
theorem GdN.with {n : Nat} {d : NodeD} {k v : ByteArray} (h : GdN n d) (hn : n ≤ 254) : GdN (n + 1) (withD d k v) := by
  obtain ⟨b, E, rfl, h1, h2⟩ := h
  by_cases ho : okE k v = true
  · rw [with_eq h1 (by omega) k v ho]
    refine ⟨b, _, rfl, ins_ok h1 ho, ?_⟩
    rw [ins_len]
    have : (dropE k E).length ≤ E.length := List.length_filter_le _ _
    omega
  · have : withD (ofE b E) k v = ofE b E := by unfold withD; rw [if_neg (fun h => ho h.2)]
    rw [this]
    exact ⟨b, E, rfl, h1, by omega⟩
theorem GdN.without {n : Nat} {d : NodeD} {k : ByteArray} (h : GdN n d) (hn : n ≤ 255) : GdN n (withoutD d k) := by
  obtain ⟨b, E, rfl, h1, h2⟩ := h
  rw [without_eq h1 (by omega)]
  exact ⟨b, _, rfl, h1.part List.filter_sublist, Nat.le_trans (List.length_filter_le _ _) h2⟩
theorem szl_ge : ∀ E : List Ent, OkL E → 4 * E.length ≤ szL (E.map (·.1)) (E.map (·.2))
  | [], _ => Nat.le_refl _
  | x :: r, h => by
    have h1 := szl_ge r (h.part (List.sublist_cons_self ..))
    have h2 := okE_iff.1 (h.ok x (by simp))
    simp only [List.map_cons, szL, List.length_cons]
    omega
theorem chk_gd {d : NodeD} (h : chkN d = 0) : GdN 239 d := by
  have hm := may_chk h
  obtain ⟨E, e, hE, hl⟩ := may_of hm
  refine ⟨d.leaf, E, e, hE, ?_⟩
  have hs : sizeD d ≤ 960 := by
    unfold chkN at h
    rw [if_pos hm] at h
    split at h
    · cases h
    · omega
  unfold sizeD at hs
  rw [if_pos hm] at hs
  have e2 : d.keys = E.map (·.1) := by rw [e]; rfl
  have e3 : d.vals = E.map (·.2) := by rw [e]; rfl
  rw [e2, e3] at hs
  have := szl_ge E hE
  omega
theorem least_le {k : ByteArray} (h : 0 < k.size) : ltK k leastT = false := by
  cases hl : ltK k leastT
  · rfl
  · exfalso
    rw [ltK_iff] at hl
    rw [Lib.toList_data, Lib.toList_data] at hl
    have e : leastT.data.toList = [0] := rfl
    rw [e] at hl
    cases hk : k.data.toList with
    | nil =>
      have : k.size = 0 := by show k.data.size = 0; rw [← Array.length_toList, hk]; rfl
      omega
    | cons a r =>
      rw [hk] at hl
      rcases List.cons_lt_cons_iff.1 hl with h1 | ⟨_, h2⟩
      · exact absurd (UInt8.lt_iff_toNat_lt.1 h1) (Nat.not_lt_zero _)
      · exact absurd h2 (List.not_lt_nil _)
theorem gd_least {n : Nat} {d : NodeD} (h : GdN n d) : GdN n ⟨false, d.keys.set 0 leastT, d.vals⟩ := by
  obtain ⟨b, E, rfl, h1, h2⟩ := h
  cases E with
  | nil => exact ⟨false, [], rfl, okl_nil, Nat.zero_le _⟩
  | cons x r =>
    refine ⟨false, (leastT, x.2) :: r, rfl, ⟨?_, ?_⟩, h2⟩
    · have hu := h1.up
      have h0 := okE_iff.1 (h1.ok x (by simp))
      simp only [List.map_cons] at hu ⊢
      unfold Up at hu ⊢
      rw [List.pairwise_cons] at hu ⊢
      refine ⟨fun k hk => ?_, hu.2⟩
      have hxk := hu.1 k hk
      rcases ltK_tri leastT x.1 with h3 | h3 | h3
      · exact ltK_tr h3 hxk
      · rw [h3]; exact hxk
      · rw [least_le h0.1] at h3; cases h3
    · intro y hy
      rcases List.mem_cons.1 hy with rfl | hy
      · have h0 := okE_iff.1 (h1.ok x (by simp))
        exact okE_iff.2 ⟨show 0 < leastT.size by decide, show leastT.size ≤ 300 by decide, h0.2.2⟩
      · exact h1.ok y (List.mem_cons_of_mem _ hy)
theorem load_gd (S : StD) (ref : ByteArray) (h : Nat) : GdN 239 (loadN S ref h).1 := by
  unfold loadN
  split
  · exact gd_nil _
  · split
    · exact gd_nil _
    · split
      · exact gd_nil _
      · rename_i h3
        have h6 : (decP (getS S ref).1).2 = 0 := Classical.byContradiction fun h => h3 (.inl h)
        obtain ⟨e, h8, _⟩ := dec_ok h6
        have h9 : GdN 239 (decP (getS S ref).1).1 := by rw [e]; exact chk_gd h8
        split
        · exact h9
        · exact gd_least h9
theorem downN_gd (S : StD) (key : ByteArray) : ∀ (f : Nat) (l : List StepD) (ref : ByteArray), (∀ s ∈ l, GdN 239 s.1 ∧ 0 < s.1.keys.length ∧ s.2 < s.1.keys.length) → l.length + f ≤ 21 →
    (∀ s ∈ (downN S key f l ref).1, GdN 239 s.1 ∧ 0 < s.1.keys.length ∧ s.2 < s.1.keys.length) ∧ GdN 239 (downN S key f l ref).2.1 ∧ (downN S key f l ref).1.length ≤ 21
  | 0, l, ref, h, hl => ⟨h, gd_nil _, by show l.length ≤ 21; omega⟩
  | f + 1, l, ref, h, hl => by
    rw [downN]
    split
    · exact ⟨h, load_gd _ _ _, by show l.length ≤ 21; omega⟩
    · rename_i hst
      have hc : (loadN S ref (l.length + 1)).2 = 0 := Classical.byContradiction fun h => hst (.inl h)
      have hlf : (loadN S ref (l.length + 1)).1.leaf = false := by simpa using fun h => hst (.inr h)
      have hin := load_in hc hlf
      refine downN_gd S key f _ _ (fun s hs => ?_) (by simp; omega)
      rcases List.mem_append.1 hs with h1 | h1
      · exact h s h1
      · rw [List.mem_singleton.1 h1]
        exact ⟨load_gd _ _ _, hin.1, by have := find_lt _ key hin.1 hin.2; show (findD _ key).1 < _; rw [hin.2]; exact this⟩
theorem downT_gd (S : StD) (root key : ByteArray) : (∀ s ∈ (downT S root key).1, GdN 239 s.1 ∧ 0 < s.1.keys.length ∧ s.2 < s.1.keys.length) ∧ GdN 239 (downT S root key).2.1 ∧ (downT S root key).1.length ≤ 21 := by
  unfold downT
  split
  · exact ⟨(fun s hs => nomatch hs), gd_leaf _, Nat.zero_le _⟩
  · exact downN_gd S key 21 [] root (fun s hs => nomatch hs) (by decide)
theorem parts_ok {n : Nat} {d : NodeD} (h : GdN n d) (hn : n ≤ 250) : ∀ p ∈ partsN d, p.keys ≠ [] ∧ SmN 1000 p := by
  have hm := h.may (by omega)
  have hs := h.sm (by omega)
  intro p hp
  unfold partsN at hp
  split at hp
  · cases hp
  · rename_i hk
    split at hp
    · rw [List.mem_singleton.1 hp]; exact ⟨hk, hs.mono (by decide)⟩
    · rename_i hc
      have h2 : 2 ≤ d.keys.length := by
        rcases Nat.lt_or_ge d.keys.length 2 with h2 | h2
        · exfalso
          obtain ⟨E, e, hE, hl⟩ := may_of hm
          have e2 : d.keys = E.map (·.1) := by rw [e]; rfl
          rw [e2, List.length_map] at h2
          refine hc ?_
          rw [e]
          refine (chk_iff hE (by omega)).2 ?_
          cases E with
          | nil => exact absurd (by rw [e2]; rfl) hk
          | cons x r =>
            cases r with
            | nil =>
              have := okE_iff.1 (hE.ok x (by simp))
              simp [szE, szL]
              omega
            | cons y r => simp at h2; omega
        · exact h2
      have hsp : splitD d = (⟨d.leaf, d.keys.take (cutD d), d.vals.take (cutD d)⟩, ⟨d.leaf, d.keys.drop (cutD d), d.vals.drop (cutD d)⟩, true) := if_pos ⟨hm, h2⟩
      obtain ⟨c1, c2⟩ := cut_in h2
      have hss := split_sm (hs.mono (show 255 ≤ 999 by decide))
      have ha : (splitD d).1.keys.length = cutD d := by rw [hsp]; show (List.take _ _).length = _; rw [List.length_take]; omega
      have hb : (splitD d).2.1.keys.length = d.keys.length - cutD d := by rw [hsp]; show (List.drop _ _).length = _; rw [List.length_drop]
      split at hp
      · rename_i hmv
        rcases List.mem_cons.1 hp with rfl | hp
        · refine ⟨fun e => ?_, (without_sm hss.1).mono (by decide)⟩
          have h3 : 1 < (withoutD (splitD d).1 ((splitD d).1.keys.getLastD noT)).keys.length := by
            unfold withoutD
            split
            · show 1 < (List.eraseIdx _ _).length
              have := List.length_eraseIdx (l := (splitD d).1.keys) (i := cntK (splitD d).1.keys ((splitD d).1.keys.getLastD noT))
              rw [this]
              split <;> omega
            · omega
          rw [e] at h3
          simp at h3
        · rw [List.mem_singleton.1 hp]
          have hl1 : (((splitD d).1.keys.getLastD noT)).size ≤ 65535 := by
            rcases List.eq_nil_or_concat (splitD d).1.keys with h9 | ⟨L, b, h9⟩
            · rw [h9] at ha; simp at ha; omega
            · rw [h9]
              have := hss.1.sz b (List.mem_append_left _ (by rw [h9]; simp))
              simpa using this
          have hl2 : (((splitD d).1.vals.getLastD noT)).size ≤ 65535 := by
            rcases List.eq_nil_or_concat (splitD d).1.vals with h9 | ⟨L, b, h9⟩
            · rw [h9]; decide
            · rw [h9]
              have := hss.1.sz b (List.mem_append_right _ (by rw [h9]; simp))
              simpa using this
          refine ⟨fun e => ?_, with_sm hss.2 hl1 hl2⟩
          have h3 : 0 < (withD (splitD d).2.1 ((splitD d).1.keys.getLastD noT) ((splitD d).1.vals.getLastD noT)).keys.length := by
            unfold withD
            split
            · split
              · show 0 < (splitD d).2.1.keys.length; omega
              · show 0 < (List.insertIdx _ _ _).length
                have : (splitD d).2.1.keys.length ≤ ((splitD d).2.1.keys.insertIdx (cntK (splitD d).2.1.keys ((splitD d).1.keys.getLastD noT)) ((splitD d).1.keys.getLastD noT)).length := List.length_le_length_insertIdx ..
                omega
            · omega
          rw [e] at h3
          simp at h3
      · rcases List.mem_cons.1 hp with rfl | hp
        · exact ⟨fun e => by rw [e] at ha; simp at ha; omega, hss.1.mono (by decide)⟩
        · rw [List.mem_singleton.1 hp]
          exact ⟨fun e => by rw [e] at hb; simp at hb; omega, hss.2.mono (by decide)⟩
theorem parts_len (d : NodeD) : (partsN d).length ≤ 2 := by
  unfold partsN
  split
  · decide
  · split
    · show 1 ≤ 2; decide
    · split <;> exact Nat.le_refl _
end Go.Proofs.Ytbeldjijnjgbfaa

namespace Go.Proofs.Ytbeldjijnjgbfaa
open Go Go.RowKit Go.ChangeShapes Go.WideShapes Go.ChangeAt

theorem NsZ.form {Z : Nat → Prop} {w : World} {v : Value} {l : List NodeD} (h : NsZ Z w v l) : ∃ a c, v = .slice a l.length c := by
  obtain ⟨r, h1, h2, _⟩ := h.ex
  obtain ⟨a, c, e, _⟩ := h1.form
  exact ⟨a, c, by rw [e, h2]⟩
theorem NsZ.at {Z : Nat → Prop} {w : World} {a : Option Addr} {c : Nat} {l : List NodeD} (h : NsZ Z w (.slice a l.length c) l) (j : Nat) (hj : j < l.length) : ∃ (x : NdV) (g : Nat), a = some ⟨g, 0, none⟩ ∧ NdZ Z w x l[j] ∧ w.cell? ⟨g, j * 3, none⟩ = some (.bool x.leaf) ∧ w.cell? ⟨g, j * 3 + 1, none⟩ = some (.slice x.ka x.kn x.kc) ∧ w.cell? ⟨g, j * 3 + 2, none⟩ = some (.slice x.va x.vn x.vc) := by
  obtain ⟨r, h1, h2, h3⟩ := h.ex
  have hr : r[j]? = some r[j] := List.getElem?_eq_getElem (by omega)
  obtain ⟨g, cap, e, _, hc⟩ := h1.at kNd_ok j _ hr
  injection e with e _ _
  exact ⟨r[j], g, e, h3 j _ _ hr (List.getElem?_eq_getElem hj), hc 0 _ rfl, hc 1 _ rfl, hc 2 _ rfl⟩
theorem PrZ.form {Z : Nat → Prop} {w : World} {v : Value} {l : List Ent} (h : PrZ Z w v l) : ∃ a c, v = .slice a l.length c := by
  obtain ⟨a, c, e, _⟩ := h.row.form
  exact ⟨a, c, e⟩
theorem PrZ.nil (Z : Nat → Prop) (w : World) : PrZ Z w (.slice none 0 0) [] := ⟨Rw.nil _ _, fun k hk => by cases hk⟩
theorem PrZ.at {Z : Nat → Prop} {w : World} {a : Option Addr} {c : Nat} {l : List Ent} (h : PrZ Z w (.slice a l.length c) l) (j : Nat) (hj : j < l.length) : ∃ g, a = some ⟨g, 0, none⟩ ∧ w.cell? ⟨g, j * 2, none⟩ = some (.string l[j].1) ∧ w.cell? ⟨g, j * 2 + 1, none⟩ = some (.string l[j].2) := by
  obtain ⟨g, cap, e, _, hc⟩ := h.row.at kPr_ok j _ (List.getElem?_eq_getElem hj)
  injection e with e _ _
  exact ⟨g, e, hc 0 _ rfl, hc 1 _ rfl⟩
section
variable {Z Y : Nat → Prop} {w w' : World} {v : Value} {F F' S : List Nat}
theorem NdZ.tod2 {x : NdV} {d : NodeD} (h : NdZ (fun k => k ∉ F ∧ Y k) w x d) (hc : Chg F w w') (hn : ∀ k ∈ F', k ∈ F ∨ w.heap.size ≤ k) : NdZ (fun k => k ∉ F' ∧ Y k) w' x d := by
  have h1 := (h.mono (Z' := (· ∉ F)) (fun k _ hk => hk.1)).tod hc hn
  exact ⟨h1.leaf, h1.kn, h1.vn, h1.kr, h1.vr, fun k hk => ⟨h1.kz k hk, (h.kz k hk).2⟩, fun k hk => ⟨h1.vz k hk, (h.vz k hk).2⟩⟩
theorem NsZ.tod2 {l : List NodeD} (h : NsZ (fun k => k ∉ F ∧ Y k) w v l) (hc : Chg F w w') (hn : ∀ k ∈ F', k ∈ F ∨ w.heap.size ≤ k) : NsZ (fun k => k ∉ F' ∧ Y k) w' v l := by
  obtain ⟨⟨r, h1, h2, h3⟩, h4⟩ := h
  exact ⟨⟨r, h1.chg hc (fun k hk => (h4 k hk).1), h2, fun i x s hx hs => (h3 i x s hx hs).tod2 hc hn⟩, fun k hk => ⟨fun hm => by rcases hn k hm with h5 | h5; exact (h4 k hk).1 h5; have := h1.lt k hk; omega, (h4 k hk).2⟩⟩
theorem NsZ.chg {l : List NodeD} (h : NsZ Z w v l) (hc : Chg S w w') (hs : ∀ k, Z k → k ∉ S) : NsZ Z w' v l := by
  obtain ⟨⟨r, h1, h2, h3⟩, h4⟩ := h
  exact ⟨⟨r, h1.chg hc (fun k hk => hs k (h4 k hk)), h2, fun i x s hx hs2 => (h3 i x s hx hs2).chg hc hs⟩, h4⟩
theorem StZ.tod2 {l : List StepD} (h : StZ (fun k => k ∉ F ∧ Y k) w v l) (hc : Chg F w w') (hn : ∀ k ∈ F', k ∈ F ∨ w.heap.size ≤ k) : StZ (fun k => k ∉ F' ∧ Y k) w' v l := by
  obtain ⟨⟨r, h1, h2, h3⟩, h4⟩ := h
  exact ⟨⟨r, h1.chg hc (fun k hk => (h4 k hk).1), h2, fun i x s hx hs => ⟨(h3 i x s hx hs).1.tod2 hc hn, (h3 i x s hx hs).2⟩⟩, fun k hk => ⟨fun hm => by rcases hn k hm with h5 | h5; exact (h4 k hk).1 h5; have := h1.lt k hk; omega, (h4 k hk).2⟩⟩
theorem StZ.chg {l : List StepD} (h : StZ Z w v l) (hc : Chg S w w') (hs : ∀ k, Z k → k ∉ S) : StZ Z w' v l := by
  obtain ⟨⟨r, h1, h2, h3⟩, h4⟩ := h
  exact ⟨⟨r, h1.chg hc (fun k hk => hs k (h4 k hk)), h2, fun i x s hx hs2 => ⟨(h3 i x s hx hs2).1.chg hc hs, (h3 i x s hx hs2).2⟩⟩, h4⟩
theorem PrZ.tod2 {l : List Ent} (h : PrZ (fun k => k ∉ F ∧ Y k) w v l) (hc : Chg F w w') (hn : ∀ k ∈ F', k ∈ F ∨ w.heap.size ≤ k) : PrZ (fun k => k ∉ F' ∧ Y k) w' v l :=
  ⟨h.row.chg hc (fun k hk => (h.bz k hk).1), fun k hk => ⟨fun hm => by rcases hn k hm with h5 | h5; exact (h.bz k hk).1 h5; have := h.row.lt k hk; omega, (h.bz k hk).2⟩⟩
end
theorem keepl_bad {S : StD} {p : NodeD} {r : List NodeD} {l : List Ent} (h : (putN S p).1.2 ≠ 0) : keepL S (p :: r) l = (([], (putN S p).1.2), (putN S p).2) := by rw [keepL, if_pos h]
theorem keepl_ok {S : StD} {p : NodeD} {r : List NodeD} {l : List Ent} (h : (putN S p).1.2 = 0) : keepL S (p :: r) l = keepL (putN S p).2 r (l ++ [(p.keys.headD noT, (putN S p).1.1)]) := by rw [keepL, if_neg (by simp [h])]
/-- What a call tells, and what became of the store. -/
def KeepTo (kb : Nat) (F : List Nat) (R : (List Ent × Int) × StD) (w : World) (e : Ending) (w' : World) : Prop :=
  ∃ v F', e = .returned (.tuple #[v, .int .i64 R.1.2]) ∧ KpF kb R.2 F' w' ∧ Chg F w w' ∧ (∀ k ∈ F', k ∈ F ∨ w.heap.size ≤ k) ∧ PrZ (· ∉ F') w' v R.1.1
set_option maxRecDepth 100000 in
set_option maxHeartbeats 8000000 in
theorem keep_any (kb : Nat) (F : List Nat) (S : StD) (x : NdV) (d : NodeD) (w : World) (h : KpF kb S F w) (hx : NdZ (· ∉ F) w x d) (hd : GdN 250 d) :
    Calls Try.prog 47 #[kpV kb, x.val] w (KeepTo kb F (keepN S d) w) := by
  have HF := Lib.hid h
  have HX := Lib.hid hx
  have HS : Hid (SmN 1000 d) := (hd.sm (by decide)).mono (by decide)
  obtain ⟨L, hL⟩ : ∃ L, L = partsN d := ⟨_, rfl⟩
  have HPO := parts_ok hd (Nat.le_refl _)
  rw [← hL] at HPO
  have HPO := Lib.hid HPO
  have hll : L.length ≤ 2 := by rw [hL]; exact parts_len d
  obtain ⟨R, hR⟩ : ∃ R, R = keepN S d := ⟨_, rfl⟩
  obtain ⟨PS, hPS⟩ : ∃ PS, PS = KeepTo kb F R w := ⟨_, rfl⟩
  rw [← hR, ← hPS]
  have HPS := Lib.hid hPS
  have HR : Hid (R = keepL S L []) := by show _ = _; rw [hR, hL]; rfl
  have HLQ := Lib.hid hL
  have HB0 : Hid (∀ o, Below w.heap.size w (w.alloc o)) := fun o => (Below.refl _ _).alloc (Nat.le_refl _) o
  have HFL : Hid (∀ k ∈ F, k < w.heap.size) := (fixed_kp kb S).lt _ _ h
  have HV : Hid (Value.agg #[.bool x.leaf, .slice x.ka x.kn x.kc, .slice x.va x.vn x.vc] = x.val) := rfl
  clear h hx hd hL hR hPS
  unfold NdV.val
  go_enter Try.func47, Try.ntmps47
  go_wp2_with fail
  rw [HV.out]
  refine (parts_any (· ∉ F) x d _ (HX.out.keep (HB0.out _)) HS.out).mono ?_
  rintro e w1 ⟨tv, rfl, hn, hb⟩
  have hb1 := (HB0.out (.cells #[.bool x.leaf, .slice x.ka x.kn x.kc, .slice x.va x.vn x.vc] 51 (0, 0))).trans (hb.mono (by rw [size_alloc]; omega))
  have HK1 := Lib.hid (HF.out.keep hb1)
  have HC1 : Hid (Chg F w w1) := Chg.of hb1 (Nat.le_refl _)
  rw [← HLQ.out] at hn
  obtain ⟨N1, hN1⟩ : ∃ N1, N1 = w1.heap.size := ⟨_, rfl⟩
  have HZ1 : Hid (w.heap.size ≤ N1) := by show _ ≤ _; rw [hN1]; exact hb1.size
  have HN1 := Lib.hid (hn.mono (Z' := fun k => k ∉ F ∧ k < N1) (fun k hlt hk => ⟨fun hm => by
    rcases hk with h | h
    · have h1 := HFL.out k hm
      rw [size_alloc] at h; omega
    · exact h hm, by omega⟩))
  have HNS1 : Hid (N1 ≤ w1.heap.size) := by show _ ≤ _; omega
  clear hb hb1 hn hN1
  obtain ⟨ta, tc, rfl⟩ := HN1.out.form
  go_wp2_with fail
  go_loopw [6, 14] (fun lv i wr => ∃ (j : Nat) (acc : List Ent) (S' : StD) (F' : List Nat), j ≤ L.length ∧ acc.length ≤ j ∧ i = .int .i64 j ∧ Hid (R = keepL S' (L.drop j) acc) ∧ Hid (KpF kb S' F' wr) ∧ Hid (Chg F w wr) ∧ Hid (∀ k ∈ F', k ∈ F ∨ w.heap.size ≤ k) ∧ Hid (N1 ≤ wr.heap.size) ∧ Hid (NsZ (fun k => k ∉ F' ∧ k < N1) wr (.slice ta L.length tc) L) ∧ Hid (PrZ (fun k => k ∉ F' ∧ N1 ≤ k) wr lv acc)) (fun _ i _ => L.length - (RowKit.intOf i).toNat)
  case atStart => exact ⟨0, [], S, F, Nat.zero_le _, Nat.le_refl _, rfl, HR, HK1, HC1, fun k hk => .inl hk, HNS1, HN1, PrZ.nil _ _⟩
  case round =>
    clear HR HK1 HC1 HN1 HNS1
    obtain ⟨j, acc, S1, F1, hj, hal, rfl, HR, HK, HC, HN, HW, HNS, HP⟩ := hrel
    obtain ⟨la, lc, rfl⟩ := HP.out.form
    by_cases hlt : j < L.length
    · obtain ⟨y, g, rfl, hy, c0, c1, c2⟩ := HNS.out.at j hlt
      have HRJ : R = keepL S1 (L[j] :: L.drop (j + 1)) acc := by rw [HR.out, List.drop_eq_getElem_cons hlt]
      have hpo := HPO.out L[j] (List.getElem_mem hlt)
      obtain ⟨p, hp⟩ : ∃ p, p = L[j] := ⟨_, rfl⟩
      rw [← hp] at HRJ hy hpo
      have HY := Lib.hid hy
      have HPK := Lib.hid hpo
      have h0j : (0 : Int) ≤ (j : Int) := by omega
      have h1j : (j : Int) < (L.length : Int) := by omega
      have w1 : wrap64 (j : Int) = (j : Int) := IntWalk.wrap64_in _ (by omega)
      have hyv := hy.agg
      have HYV : Hid (Value.agg #[.bool y.leaf, .slice y.ka y.kn y.kc, .slice y.va y.vn y.vc] = nodeV y.ka y.kc y.va y.vc p) := hyv
      have HA0 : Hid (∀ o, Below wr.heap.size wr (wr.alloc o)) := fun o => (Below.refl _ _).alloc (Nat.le_refl _) o
      have HF1L : Hid (∀ k ∈ F1, k < wr.heap.size) := (fixed_kp kb S1).lt _ _ HK.out
      have BM : Hid (Box (wr.alloc (.cells #[.bool y.leaf, .slice y.ka y.kn y.kc, .slice y.va y.vn y.vc] 51 (0, 0))) wr.heap.size 51 #[.bool y.leaf, .slice y.ka y.kn y.kc, .slice y.va y.vn y.vc]) := Box.new _ _ _
      clear hy hpo hp HR hyv
      go_wp2_with fail
      rw [HYV.out]
      clear c0 c1 c2
      obtain ⟨W1, hW1⟩ : ∃ W1, W1 = wr.alloc (.cells #[.bool y.leaf, .slice y.ka y.kn y.kc, .slice y.va y.vn y.vc] 51 (0, 0)) := ⟨_, rfl⟩
      have hb : Below wr.heap.size wr W1 := by rw [hW1]; exact HA0.out _
      rw [← hW1] at BM ⊢
      clear hW1
      refine (tput_any kb F1 S1 y.ka y.kc y.va y.vc p _ (HK.out.keep hb) ((HY.out.keep hb).nodeIn (by have := HPK.out.2.kl; omega) (by have := HPK.out.2.vl; omega)) HPK.out.2.max).mono ?_
      rintro e W2 ⟨rfl, F2, hk2, hc2, hn2⟩
      have hc02 : Chg F1 wr W2 := (Chg.of hb (Nat.le_refl _)).trans hc2
      have hn02 : ∀ k ∈ F2, k ∈ F1 ∨ wr.heap.size ≤ k := fun k hk => by
        rcases hn2 k hk with h | h
        · exact .inl h
        · exact .inr (Nat.le_trans hb.size h)
      have HK2 := Lib.hid hk2
      have HC2 : Hid (Chg F w W2) := HC.out.then hc02 (fun i hi => HN.out i hi)
      have HN2 : Hid (∀ k ∈ F2, k ∈ F ∨ w.heap.size ≤ k) := fun k hk => by
        rcases hn02 k hk with h | h
        · exact HN.out k h
        · exact .inr (Nat.le_trans HC.out.size h)
      have HNS2 := Lib.hid (HNS.out.tod2 hc02 hn02)
      have HP2 := Lib.hid (HP.out.tod2 hc02 hn02)
      have HY2 := Lib.hid (HY.out.tod2 hc02 hn02)
      have BM2 := Lib.hid (BM.out.of (hc2.block _ BM.out.lt (fun hm => by have := HF1L.out _ hm; omega)))
      have HW2 : Hid (N1 ≤ W2.heap.size) := Nat.le_trans HW.out hc02.size
      clear hk2 hc2 hn2 hc02 hn02 hb HK HC HN HNS HP HY BM HA0 HW
      by_cases hce : (putN S1 p).1.2 = 0
      · have HRN : Hid (R = keepL (putN S1 p).2 (L.drop (j + 1)) (acc ++ [(p.keys.headD noT, (putN S1 p).1.1)])) := HRJ.trans (keepl_ok hce)
        rw [hce]
        clear HRJ hce
        have hne := HPK.out.1
        obtain ⟨k0, kr, hpk⟩ : ∃ k0 kr, p.keys = k0 :: kr := by
          cases hk : p.keys with
          | nil => exact absurd hk hne
          | cons a r => exact ⟨a, r, rfl⟩
        have hhd : p.keys.headD noT = k0 := by rw [hpk]; rfl
        rw [hhd] at HRN
        have hkn : y.kn = kr.length + 1 := by rw [HY2.out.kn, hpk]; rfl
        obtain ⟨pa, pc, hke, hks⟩ := ks_form2 HY2.out.kr
        unfold NdV.k at hke
        injection hke with hka x1 x2
        clear x1 x2
        rw [← hka] at hks
        obtain ⟨gk, ok, hkx, _, hkc⟩ := hks.get 0 (by rw [hpk]; simp)
        have hk0 : W2.cell? ⟨gk, ok + 0, none⟩ = some (.string k0) := by rw [hkc]; simp [hpk]
        rw [Nat.add_zero] at hk0
        have b1 : W2.cell? ⟨wr.heap.size, 1, none⟩ = some (.slice (some ⟨gk, ok, none⟩) (kr.length + 1) y.kc) := by have := BM2.out.cell 1 _ rfl; rw [this, ← hkn, ← hkx]; rfl
        obtain ⟨ref, href⟩ : ∃ ref, ref = (putN S1 p).1.1 := ⟨_, rfl⟩
        rw [← href] at HRN ⊢
        obtain ⟨S2, hS2⟩ : ∃ S2, S2 = (putN S1 p).2 := ⟨_, rfl⟩
        rw [← hS2] at HRN HK2
        clear hne hpk hhd hkn hka hks hkx hkc href hS2
        have BX : Hid (Box (W2.alloc (.cells #[.string k0, .string ref] 56 (0, 0))) W2.heap.size 56 #[.string k0, .string ref]) := Box.new _ _ _
        obtain ⟨W3, hW3⟩ : ∃ W3, W3 = W2.alloc (.cells #[.string k0, .string ref] 56 (0, 0)) := ⟨_, rfl⟩
        rw [← hW3] at BX
        have HW3 := Lib.hid hW3.symm
        have hb3 : Below W2.heap.size W2 W3 := by rw [hW3]; exact (Below.refl _ _).alloc (Nat.le_refl _) _
        have HSZ3 : Hid (W3.heap.size = W2.heap.size + 1) := by show _ = _; rw [hW3, size_alloc]
        have HP3 := Lib.hid (HP2.out.keep hb3)
        clear hW3
        have HB3 := Lib.hid hb3
        clear hb3
        go_wp2_with (at_builtin; refine wp_rw_push kPr_ok Try.underlying38 _ rfl _ _ rfl 0 _ acc rfl (by rw [HW3.out]; exact HP3.out.row) W2.heap.size 1 (k0, ref) rfl ?c1 (by omega) (Nat.zero_le _) ?_)
        case c1 =>
          intro j2 u hj2
          rw [HW3.out]
          exact BX.out.cell j2 u (by rw [← hj2]; show #[Value.string k0, Value.string ref][j2]? = [Value.string k0, Value.string ref][j2]?; simp)
        intro v' W4 hk4 hg4 ho4
        rw [HW3.out] at hg4
        have ho5 : v'.ownBlock = (Value.slice la acc.length lc).ownBlock ∨ v'.ownBlock = some W3.heap.size := by rw [← HW3.out]; simpa using ho4
        have hc4 : Chg (Value.slice la acc.length lc).ownBlock.toList W3 W4 := Chg.grown hg4 (fun k hk => by simp [hk])
        have hlb : ∀ k, k ∈ (Value.slice la acc.length lc).ownBlock.toList → k ∉ F2 ∧ N1 ≤ k := fun k hk => HP3.out.bz k (by simpa using hk)
        have HK4 := Lib.hid ((fixed_kp kb S2).keep _ _ _ _ (HK2.out.keep HB3.out) hc4 (fun k hk hm => (hlb k hm).1 hk))
        have HC4 : Hid (Chg F w W4) := (HC2.out.trans (Chg.of HB3.out (Nat.le_refl _))).then hc4 (fun i hi => .inr (by have := (hlb i hi).2; have := HZ1.out; omega))
        have HNS4 := Lib.hid ((HNS2.out.keep HB3.out).chg hc4 (fun k hk hm => by have := (hlb k hm).2; omega))
        have hfl := (fixed_kp kb S2).lt _ _ HK2.out
        have HP4 : Hid (PrZ (fun k => k ∉ F2 ∧ N1 ≤ k) W4 v' (acc ++ [(k0, ref)])) := ⟨hk4, fun k hk => by
          rcases ho5 with h | h
          · exact hlb k (by rw [← h]; simp [hk])
          · rw [h] at hk
            injection hk with hk
            have := HSZ3.out
            have := HW2.out
            exact ⟨fun hm => by have := hfl k hm; omega, by omega⟩⟩
        have HW4 : Hid (N1 ≤ W4.heap.size) := by have := hg4.size; have := HSZ3.out; have := HW2.out; show _ ≤ _; omega
        have hal4 : (acc ++ [(k0, ref)]).length ≤ j + 1 := by simp; exact hal
        obtain ⟨la4, lc4, rfl⟩ := HP4.out.form
        clear hk4 hg4 ho4 ho5 hc4 hlb hfl HC2 HNS2 HP2 HY2 BM2 HW2 HK2 HP3 BX hk0 b1
        go_wp2
        go_roundw
        case rel => exact ⟨j + 1, _, S2, F2, by omega, hal4, by go_num, HRN, HK4, HC4, HN2, HW4, HNS4, HP4⟩
        case measure => simp [RowKit.intOf]; omega
      · have HRE : Hid (R = (([], (putN S1 p).1.2), (putN S1 p).2)) := HRJ.trans (keepl_bad hce)
        have e1 : ((putN S1 p).1.2 != 0) = true := by simpa using hce
        clear HRJ hce
        generalize (putN S1 p).1.2 = ce at *
        go_wp2
        rw [HPS.out, HRE.out]
        exact ⟨_, F2, rfl, HK2.out, HC2.out, HN2.out, PrZ.nil _ _⟩
    · have hjl : j = L.length := by omega
      have HRE : Hid (R = ((acc, 0), S1)) := by show _ = _; rw [HR.out, List.drop_of_length_le (by omega)]; rfl
      subst hjl
      go_wp2
      rw [HPS.out, HRE.out]
      exact ⟨_, F1, rfl, HK.out, HC.out, HN.out, HP.out.mono (fun k _ hk => hk.1)⟩
end Go.Proofs.Ytbeldjijnjgbfaa
