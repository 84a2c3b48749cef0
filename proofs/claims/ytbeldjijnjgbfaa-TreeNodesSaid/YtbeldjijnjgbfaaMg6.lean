/-
  Texts put together: TreeJ, TreeK, TreeL.
-/
import Derived.Test.YtbeldjijnjgbfaaMg5
namespace Go.Proofs.Ytbeldjijnjgbfaa
open Go.RowKit
attribute [local irreducible] encD decP rawD

theorem ref_six {S : StD} {ref : ByteArray} {h : Nat} {m : NodeD} (hl : loadN S ref h = (m, 0)) : ref.size = 6 := by
  obtain ⟨_, t, h1, _⟩ := load_of (S := S) (ref := ref) (h := h) (by rw [hl])
  obtain ⟨n, h2, _⟩ := get_lt h1
  unfold numT at h2
  cases hn : numF ref.data.toList 0 with
  | none => rw [hn] at h2; cases h2
  | some k =>
    rw [hn] at h2
    dsimp only at h2
    by_cases h6 : ref.size = 6
    · exact h6
    · rw [if_neg h6] at h2; cases h2
theorem inner_short {S : StD} {i : Nat} {C : List ChD} (h : InC S i C) : ∀ x ∈ C.map (·.1), 3 + x.1.size + x.2.size ≤ 309 := fun x hx => by
  obtain ⟨c, hc, rfl⟩ := List.mem_map.1 hx
  obtain ⟨_, _, m, k3, _⟩ := h.ch c hc
  have h1 := ref_six (k3 20 (Nat.le_refl _))
  have h2 := okE_iff.1 (h.ok.ok c.1 hx)
  omega
theorem wtC_app (P Q : List ChD) : wtC (P ++ Q) = wtC P + wtC Q := by unfold wtC; rw [List.map_append, List.sum_append]
theorem wt_cut (i : Nat) {P Q : List ChD} (hp : 2 ≤ P.length) (hq : 2 ≤ Q.length) : wtI i P + wtI i Q + 2 * 2 ^ (i + 1) = wtI i (P ++ Q) := by
  unfold wtI
  rw [wtC_app, List.length_append]
  obtain ⟨a, ha⟩ : ∃ a, P.length = a + 2 := ⟨P.length - 2, by omega⟩
  obtain ⟨b, hb⟩ : ∃ b, Q.length = b + 2 := ⟨Q.length - 2, by omega⟩
  rw [ha, hb]
  have e1 : max (a + 2) 2 - 2 = a := by omega
  have e2 : max (b + 2) 2 - 2 = b := by omega
  have e3 : max (a + 2 + (b + 2)) 2 - 2 = a + b + 2 := by omega
  rw [e1, e2, e3, Nat.add_mul, Nat.add_mul]
  omega
theorem map_cut {C : List ChD} {P Q : List Ent} (h : C.map (·.1) = P ++ Q) : ∃ A B, C = A ++ B ∧ A.map (·.1) = P ∧ B.map (·.1) = Q := by
  obtain ⟨A, B, h1, h2, h3⟩ := List.map_eq_append_iff.1 h
  exact ⟨A, B, h1, h2, h3⟩
theorem head_of {α : Type} {l : List α} (h : l ≠ []) : ∃ x r, l = x :: r := by
  cases l with
  | nil => exact absurd rfl h
  | cons x r => exact ⟨x, r, rfl⟩
theorem keys_ne {C : List ChD} (h : C ≠ []) : (ofE false (C.map (·.1))).keys ≠ [] := by
  show (C.map (·.1)).map (·.1) ≠ []
  simpa using h
theorem keep_inner {S : StD} {i : Nat} {C : List ChD} (h : InC S i C) (hs : 2 + szE (C.map (·.1)) ≤ 1383) (hr : RoomS S 2) : ∃ D T, KeptN S (i + 1) (ofE false (C.map (·.1))) (prC C) (wtI i C) D T := by
  have hl : (C.map (·.1)).length ≤ 255 := by rw [List.length_map]; exact h.len
  have hne : C.map (·.1) ≠ [] := by simpa using h.ne
  by_cases hsm : 2 + szE (C.map (·.1)) ≤ 960
  · have hc := (chk_iff (b := false) h.ok hl).2 hsm
    obtain ⟨c, r, e⟩ := head_of h.ne
    have hk : keepN S (ofE false (C.map (·.1))) = (([(c.1.1, dig6 S.l.length)], 0), { S with l := S.l ++ [encD (ofE false (C.map (·.1)))] }) := by
      unfold keepN
      rw [parts_small h.ok hl hne hsm, keep_one hc ⟨by have := hr.1; omega, by have := hr.2; omega⟩]
      rw [e]; rfl
    have hx := okE_iff.1 (h.ok.ok c.1 (by rw [e]; simp))
    have hgr : GrowS S { S with l := S.l ++ [encD (ofE false (C.map (·.1)))] } := ⟨rfl, _, rfl⟩
    have hld : ∀ j, j ≤ 20 → loadN { S with l := S.l ++ [encD (ofE false (C.map (·.1)))] } (dig6 S.l.length) j = (leastF (ofE false (C.map (·.1))), 0) := fun j hj => put_load hc (by have := hr.2; omega) (.inr (keys_ne h.ne)) hj
    refine ⟨[((c.1.1, dig6 S.l.length), (prC C, wtI i C))], _, hk, hgr, by show (S.l ++ [_]).length ≤ _; simp, ⟨fun d hd => ?_, fun d hd => ?_, List.pairwise_singleton ..⟩, by unfold prC; simp, .inl ⟨rfl, by unfold wtC; simp⟩⟩
    · rw [List.mem_singleton] at hd
      subst hd
      exact ⟨pr_ne h, fun z hz => pr_low h e z hz, inner_load (C := C) hld (h.grow hgr)⟩
    · rw [List.mem_singleton] at hd
      subst hd
      exact okE_iff.2 ⟨hx.1, hx.2.1, by show (dig6 _).size ≤ 120; rw [dig_size]; omega⟩
  · obtain ⟨P, Q, epq, hP, hQ, hpt, hp1, hq1, hp2⟩ := parts_big (b := false) h.ok hl (by omega) hs (fun _ => inner_short h)
    obtain ⟨A, B, rfl, rfl, rfl⟩ := map_cut epq
    have hA : A ≠ [] := by simpa using hP
    have hB : B ≠ [] := by simpa using hQ
    have hfA := h.fore hA
    have hfB := h.hind hB
    have hlA : (A.map (·.1)).length ≤ 255 := by rw [List.length_map]; exact hfA.len
    have hlB : (B.map (·.1)).length ≤ 255 := by rw [List.length_map]; exact hfB.len
    have hcP := (chk_iff (b := false) hfA.ok hlA).2 hp1
    have hcQ := (chk_iff (b := false) hfB.ok hlB).2 hq1
    obtain ⟨c, r, e⟩ := head_of hA
    obtain ⟨d, t, e2⟩ := head_of hB
    have hk : keepN S (ofE false ((A ++ B).map (·.1))) = (([(c.1.1, dig6 S.l.length), (d.1.1, dig6 (S.l.length + 1))], 0), { S with l := (S.l ++ [encD (ofE false (A.map (·.1)))]) ++ [encD (ofE false (B.map (·.1)))] }) := by
      unfold keepN
      rw [hpt, keep_two hcP hcQ hr]
      rw [e, e2]; rfl
    have hx := okE_iff.1 (hfA.ok.ok c.1 (by rw [e]; simp))
    have hy := okE_iff.1 (hfB.ok.ok d.1 (by rw [e2]; simp))
    have hgr : GrowS S { S with l := (S.l ++ [encD (ofE false (A.map (·.1)))]) ++ [encD (ofE false (B.map (·.1)))] } := ⟨rfl, _, List.append_assoc _ _ _⟩
    have hl1 : ∀ j, j ≤ 20 → loadN { S with l := (S.l ++ [encD (ofE false (A.map (·.1)))]) ++ [encD (ofE false (B.map (·.1)))] } (dig6 S.l.length) j = (leastF (ofE false (A.map (·.1))), 0) := fun j hj =>
      load_grow (S := { S with l := S.l ++ [encD (ofE false (A.map (·.1)))] }) (T := { S with l := (S.l ++ [encD (ofE false (A.map (·.1)))]) ++ [encD (ofE false (B.map (·.1)))] }) ⟨rfl, [encD (ofE false (B.map (·.1)))], rfl⟩ (put_load hcP (by have := hr.2; omega) (.inr (keys_ne hA)) hj) hj
    have hl2 : ∀ j, j ≤ 20 → loadN { S with l := (S.l ++ [encD (ofE false (A.map (·.1)))]) ++ [encD (ofE false (B.map (·.1)))] } (dig6 (S.l.length + 1)) j = (leastF (ofE false (B.map (·.1))), 0) := fun j hj => by
      have h9 := put_load (S := { S with l := S.l ++ [encD (ofE false (A.map (·.1)))] }) hcQ (by show (S.l ++ [_]).length < _; have := hr.2; simp; omega) (.inr (keys_ne hB)) hj
      have e9 : ({ S with l := S.l ++ [encD (ofE false (A.map (·.1)))] } : StD).l.length = S.l.length + 1 := by show (S.l ++ [_]).length = _; simp
      rw [e9] at h9
      exact h9
    have h2 := hp2 rfl
    rw [List.length_map, List.length_map] at h2
    have hwt := wt_cut i h2.1 h2.2
    refine ⟨[((c.1.1, dig6 S.l.length), (prC A, wtI i A)), ((d.1.1, dig6 (S.l.length + 1)), (prC B, wtI i B))], _, hk, hgr, by show ((S.l ++ [_]) ++ [_]).length ≤ _; simp, ⟨fun z hz => ?_, fun z hz => ?_, ?_⟩, by rw [prC_app, prC_cons, prC_cons]; unfold prC; simp, .inr ⟨rfl, ?_⟩⟩
    · rcases List.mem_cons.1 hz with e9 | hz
      · subst e9; exact ⟨pr_ne hfA, fun y hy => pr_low hfA e y hy, inner_load (C := A) hl1 (hfA.grow hgr)⟩
      · rw [List.mem_singleton] at hz
        subst hz; exact ⟨pr_ne hfB, fun y hy => pr_low hfB e2 y hy, inner_load (C := B) hl2 (hfB.grow hgr)⟩
    · rcases List.mem_cons.1 hz with e9 | hz
      · subst e9; exact okE_iff.2 ⟨hx.1, hx.2.1, by show (dig6 _).size ≤ 120; rw [dig_size]; omega⟩
      · rw [List.mem_singleton] at hz
        subst hz; exact okE_iff.2 ⟨hy.1, hy.2.1, by show (dig6 _).size ≤ 120; rw [dig_size]; omega⟩
    · refine List.pairwise_cons.2 ⟨fun z hz => ?_, List.pairwise_singleton ..⟩
      rw [List.mem_singleton] at hz
      subst hz
      intro y hy
      obtain ⟨a, ha, hya⟩ := mem_prC (C := A) hy
      exact (List.pairwise_append.1 h.pw).2.2 a ha d (by rw [e2]; exact List.mem_cons_self ..) y hya
    · rw [if_neg (by omega), ← hwt]
      unfold wtC
      simp
end Go.Proofs.Ytbeldjijnjgbfaa

namespace Go.Proofs.Ytbeldjijnjgbfaa
open Go.RowKit
attribute [local irreducible] encD decP rawD

theorem ok_set {A B : List Ent} {k r r2 : ByteArray} (h : OkL (A ++ (k, r) :: B)) (hr : r2.size ≤ 120) : OkL (A ++ (k, r2) :: B) := by
  refine ⟨?_, fun x hx => ?_⟩
  · have h1 := h.up
    have e : (A ++ (k, r2) :: B).map (·.1) = (A ++ (k, r) :: B).map (·.1) := by simp
    rw [e]; exact h1
  · rcases List.mem_append.1 hx with e | e
    · exact h.ok x (List.mem_append_left _ e)
    · rcases List.mem_cons.1 e with e | e
      · have h1 := okE_iff.1 (h.ok (k, r) (by simp))
        rw [e]; exact okE_iff.2 ⟨h1.1, h1.2.1, hr⟩
      · exact h.ok x (List.mem_append_right _ (List.mem_cons_of_mem _ e))
theorem ok_ins {A B : List Ent} {k r dk dr : ByteArray} (h : OkL (A ++ (k, r) :: B)) (hd : okE dk dr = true) (h1 : ltK k dk = true) (h2 : ∀ b ∈ B, ltK dk b.1 = true) : OkL (A ++ (k, r) :: (dk, dr) :: B) := by
  have h0 := h.up
  unfold Up at h0
  rw [List.map_append, List.map_cons, List.pairwise_append] at h0
  have hc := List.pairwise_cons.1 h0.2.1
  refine ⟨?_, fun x hx => ?_⟩
  · unfold Up
    rw [List.map_append, List.map_cons, List.map_cons, List.pairwise_append]
    refine ⟨h0.1, List.pairwise_cons.2 ⟨fun y hy => ?_, List.pairwise_cons.2 ⟨fun y hy => ?_, hc.2⟩⟩, fun a ha y hy => ?_⟩
    · rcases List.mem_cons.1 hy with e | e
      · rw [e]; exact h1
      · exact hc.1 y e
    · obtain ⟨b, hb, rfl⟩ := List.mem_map.1 hy
      exact h2 b hb
    · have hk := h0.2.2 a ha k (List.mem_cons_self ..)
      rcases List.mem_cons.1 hy with e | e
      · rw [e]; exact hk
      · rcases List.mem_cons.1 e with e | e
        · rw [e]; exact ltK_tr hk h1
        · exact h0.2.2 a ha y (List.mem_cons_of_mem _ e)
  · rcases List.mem_append.1 hx with e | e
    · exact h.ok x (List.mem_append_left _ e)
    · rcases List.mem_cons.1 e with e | e
      · rw [e]; exact h.ok (k, r) (by simp)
      · rcases List.mem_cons.1 e with e | e
        · rw [e]; exact hd
        · exact h.ok x (List.mem_append_right _ (List.mem_cons_of_mem _ e))
theorem up_mid {A B : List Ent} {k r : ByteArray} (h : OkL (A ++ (k, r) :: B)) : (∀ x ∈ A, ltK x.1 k = true) ∧ (∀ x ∈ B, ltK k x.1 = true) ∧ OkL (A ++ B) := by
  refine ⟨fun x hx => up_next h x hx (k, r) (List.mem_cons_self ..), fun x hx => ?_, h.part (List.Sublist.append_left (List.sublist_cons_self _ _) _)⟩
  have h1 : OkL ((A ++ [(k, r)]) ++ B) := by rw [List.append_assoc]; exact h
  exact up_next h1 (k, r) (by simp) x hx
/-- The first one's key is another. -/
def reK (k : ByteArray) : List ChD → List ChD
  | [] => []
  | c :: r => ((k, c.1.2), c.2) :: r
theorem swap_eq {A B : List Ent} {k r : ByteArray} (h : OkL (A ++ (k, r) :: B)) (hl : (A ++ (k, r) :: B).length + 1 ≤ 255) {D : List ChD} (hD : D.length ≤ 2) (hok : ∀ c ∈ D, okE c.1.1 c.1.2 = true) (h1 : ∀ c ∈ D.drop 1, ltK k c.1.1 = true ∧ ∀ b ∈ B, ltK c.1.1 b.1 = true) :
    swapN (ofE false (A ++ (k, r) :: B)) A.length (D.map (·.1)) = ofE false (A ++ ((reK k D).map (·.1) ++ B)) ∧ OkL (A ++ ((reK k D).map (·.1) ++ B)) := by
  obtain ⟨ha, hb, hab⟩ := up_mid h
  have hkey : (ofE false (A ++ (k, r) :: B)).keys.getD A.length noT = k := by unfold ofE; simp
  have hokk := okE_iff.1 (h.ok (k, r) (by simp))
  have hln : (A ++ (k, r) :: B).length = A.length + B.length + 1 := by simp; omega
  have hw : withoutD (ofE false (A ++ (k, r) :: B)) k = ofE false (A ++ B) := by
    rw [without_eq h (by omega)]
    have := drop_cut (key := k) (A := A) (M := [(k, r)]) (B := B) ha hb (.inr ⟨r, rfl⟩)
    rw [show A ++ (k, r) :: B = A ++ ([(k, r)] ++ B) from rfl, this]
  unfold swapN
  rw [hkey, hw]
  cases D with
  | nil => exact ⟨rfl, hab⟩
  | cons c D1 =>
    have hc := okE_iff.1 (hok c (List.mem_cons_self ..))
    have hokc : okE k c.1.2 = true := okE_iff.2 ⟨hokk.1, hokk.2.1, hc.2.2⟩
    have hw2 : withD (ofE false (A ++ B)) k c.1.2 = ofE false (A ++ (k, c.1.2) :: B) := by
      rw [with_eq hab (by rw [List.length_append]; omega) _ _ hokc]
      have e1 := drop_cut (key := k) (A := A) (M := []) (B := B) ha hb (.inl rfl)
      rw [List.nil_append] at e1
      rw [e1, ins_cut hb A ha]
    have hset := ok_set (r2 := c.1.2) h hc.2.2
    cases D1 with
    | nil => exact ⟨hw2, hset⟩
    | cons d D2 =>
      have hD2 : D2 = [] := by
        cases D2 with
        | nil => rfl
        | cons _ _ => simp at hD
      subst hD2
      have hd := h1 d (by simp)
      have hokd := hok d (by simp)
      have hins := ok_ins hset hokd hd.1 hd.2
      refine ⟨?_, hins⟩
      show withD (withD (ofE false (A ++ B)) k c.1.2) d.1.1 d.1.2 = _
      rw [hw2, with_eq hset (by rw [List.length_append, List.length_cons]; omega) _ _ hokd]
      have ha2 : ∀ x ∈ A ++ [(k, c.1.2)], ltK x.1 d.1.1 = true := fun x hx => by
        rcases List.mem_append.1 hx with e | e
        · exact ltK_tr (ha x e) hd.1
        · rw [List.mem_singleton.1 e]; exact hd.1
      have e1 := drop_cut (key := d.1.1) (A := A ++ [(k, c.1.2)]) (M := []) (B := B) ha2 hd.2 (.inl rfl)
      rw [List.nil_append] at e1
      rw [show A ++ (k, c.1.2) :: B = (A ++ [(k, c.1.2)]) ++ B from by simp, e1, ins_cut hd.2 _ ha2]
      show ofE false _ = ofE false (A ++ ([(k, c.1.2), d.1] ++ B))
      simp
end Go.Proofs.Ytbeldjijnjgbfaa

namespace Go.Proofs.Ytbeldjijnjgbfaa
open Go.RowKit
attribute [local irreducible] encD decP rawD

theorem le_lt {z k b : ByteArray} (h1 : ltK z k = false) (h2 : ltK z b = true) : ltK k b = true := by
  rcases ltK_tri z k with h | h | h
  · rw [h1] at h; cases h
  · rw [← h]; exact h2
  · exact ltK_tr h h2
theorem re_pr (k : ByteArray) (D : List ChD) : prC (reK k D) = prC D := by
  cases D with
  | nil => rfl
  | cons c r => show prC (((k, c.1.2), c.2) :: r) = _; rw [prC_cons, prC_cons]
theorem re_wt (k : ByteArray) (D : List ChD) : wtC (reK k D) = wtC D := by cases D <;> rfl
theorem re_len (k : ByteArray) (D : List ChD) : (reK k D).length = D.length := by cases D <;> rfl
theorem re_mem {k : ByteArray} {D : List ChD} {c : ChD} (h : c ∈ reK k D) : (∃ d r, D = d :: r ∧ c = ((k, d.1.2), d.2)) ∨ (c ∈ D.drop 1 ∧ c ∈ D) := by
  cases D with
  | nil => cases h
  | cons d r =>
    rcases List.mem_cons.1 h with e | e
    · exact .inl ⟨d, r, rfl, e⟩
    · exact .inr ⟨e, List.mem_cons_of_mem _ e⟩
/-- The second one's key lies between. -/
theorem frs_key {T : StD} {i : Nat} {D : List ChD} (fr : Frs T i D) {k : ByteArray} (hlow : ∀ z ∈ prC D, ltK z.1 k = false) : ∀ c ∈ D.drop 1, ltK k c.1.1 = true := by
  cases D with
  | nil => intro c hc; cases hc
  | cons d r =>
    intro c hc
    obtain ⟨z, t, hz⟩ := head_of (fr.ch d (List.mem_cons_self ..)).1
    have h1 := (List.pairwise_cons.1 fr.pw).1 c hc z (by rw [hz]; exact List.mem_cons_self ..)
    exact le_lt (hlow z (by rw [prC_cons, hz]; simp)) h1
theorem frs_next {T : StD} {i : Nat} {D : List ChD} (fr : Frs T i D) {b : ByteArray} (hup : ∀ z ∈ prC D, ltK z.1 b = true) : ∀ c ∈ D, ltK c.1.1 b = true := fun c hc => by
  obtain ⟨h1, h2, _⟩ := fr.ch c hc
  obtain ⟨z, t, hz⟩ := head_of h1
  refine le_lt (h2 z (by rw [hz]; exact List.mem_cons_self ..)) (hup z ?_)
  unfold prC
  exact List.mem_flatMap.2 ⟨c, hc, by rw [hz]; exact List.mem_cons_self ..⟩
theorem InC.swap {S T : StD} {i : Nat} {P Q D : List ChD} {x : ChD} (h : InC S i (P ++ x :: Q)) (hg : GrowS S T) (fr : Frs T i D) (hD : D.length ≤ 2) (hlow : ∀ z ∈ prC D, ltK z.1 x.1.1 = false) (hup : ∀ d ∈ Q, ∀ z ∈ prC D, ltK z.1 d.1.1 = true) (hlen : (P ++ x :: Q).length + 1 ≤ 255) :
    swapN (ofE false ((P ++ x :: Q).map (·.1))) P.length (D.map (·.1)) = ofE false ((P ++ (reK x.1.1 D ++ Q)).map (·.1)) ∧ (P ++ (reK x.1.1 D ++ Q) ≠ [] → InC T i (P ++ (reK x.1.1 D ++ Q))) := by
  have hmap : (P ++ x :: Q).map (·.1) = P.map (·.1) ++ (x.1.1, x.1.2) :: Q.map (·.1) := by simp
  have hok := h.ok
  rw [hmap] at hok
  obtain ⟨s1, s2⟩ := swap_eq hok (by simp at hlen ⊢; omega) hD fr.ok (fun c hc => ⟨frs_key fr hlow c hc, fun b hb => by
    obtain ⟨d, hd, rfl⟩ := List.mem_map.1 hb
    exact frs_next fr (hup d hd) c (List.mem_of_mem_drop hc)⟩)
  have hmap2 : P.map (·.1) ++ ((reK x.1.1 D).map (·.1) ++ Q.map (·.1)) = (P ++ (reK x.1.1 D ++ Q)).map (·.1) := by simp
  rw [hmap2] at s1 s2
  rw [List.length_map] at s1
  rw [hmap]
  refine ⟨s1, fun hne => ⟨s2, ?_, hne, fun c hc => ?_, ?_⟩⟩
  · rw [List.length_append, List.length_append, re_len]
    rw [List.length_append, List.length_cons] at hlen
    omega
  · have hold : ∀ c ∈ P ++ x :: Q, c.2.1 ≠ [] ∧ (∀ y ∈ c.2.1, ltK y.1 c.1.1 = false) ∧ ∃ m, (∀ j, j ≤ 20 → loadN T c.1.2 j = (m, 0)) ∧ TrN T i m c.2.1 c.2.2 := (h.grow hg).ch
    rcases List.mem_append.1 hc with e | e
    · exact hold c (List.mem_append_left _ e)
    · rcases List.mem_append.1 e with e | e
      · rcases re_mem e with ⟨d, r, e1, e2⟩ | ⟨_, e1⟩
        · obtain ⟨k1, _, k3⟩ := fr.ch d (by rw [e1]; exact List.mem_cons_self ..)
          rw [e2]
          refine ⟨k1, fun z hz => hlow z ?_, k3⟩
          unfold prC
          exact List.mem_flatMap.2 ⟨d, by rw [e1]; exact List.mem_cons_self .., hz⟩
        · exact fr.ch c e1
      · exact hold c (List.mem_append_right _ (List.mem_cons_of_mem _ e))
  · have hp := List.pairwise_append.1 h.pw
    have hq := List.pairwise_cons.1 hp.2.1
    rw [List.pairwise_append, List.pairwise_append]
    refine ⟨hp.1, ⟨?_, hq.2, fun c hc d hd => ?_⟩, fun c hc d hd => ?_⟩
    · cases D with
      | nil => exact List.Pairwise.nil
      | cons c r =>
        have h1 := List.pairwise_cons.1 fr.pw
        exact List.pairwise_cons.2 ⟨h1.1, h1.2⟩
    · intro z hz
      refine hup d hd z ?_
      rw [← re_pr x.1.1 D]
      unfold prC
      exact List.mem_flatMap.2 ⟨c, hc, hz⟩
    · intro z hz
      have hk := hp.2.2 c hc x (List.mem_cons_self ..) z hz
      rcases List.mem_append.1 hd with e | e
      · rcases re_mem e with ⟨y, r, _, e2⟩ | ⟨e1, _⟩
        · rw [e2]; exact hk
        · exact ltK_tr hk (frs_key fr hlow d e1)
      · exact hp.2.2 c hc d (List.mem_cons_of_mem _ e) z hz
end Go.Proofs.Ytbeldjijnjgbfaa
