/-
  Texts put together: TreeF, TreeG, TreeH, TreeI.
-/
import Derived.Test.YtbeldjijnjgbfaaMg4
namespace Go.Proofs.Ytbeldjijnjgbfaa
open Go.RowKit

def szE (E : List Ent) : Nat := szL (E.map (·.1)) (E.map (·.2))
theorem szE_nil : szE [] = 0 := rfl
theorem szE_cons (x : Ent) (E : List Ent) : szE (x :: E) = 3 + x.1.size + x.2.size + szE E := rfl
theorem szE_app : ∀ A B : List Ent, szE (A ++ B) = szE A + szE B
  | [], B => by rw [List.nil_append, szE_nil, Nat.zero_add]
  | x :: A, B => by rw [List.cons_append, szE_cons, szE_cons, szE_app A B]; omega
theorem okE_iff {k v : ByteArray} : okE k v = true ↔ 0 < k.size ∧ k.size ≤ 300 ∧ v.size ≤ 120 := by unfold okE; exact decide_eq_true_iff
theorem szE_le {E : List Ent} {m : Nat} (h : ∀ x ∈ E, 3 + x.1.size + x.2.size ≤ m) : szE E ≤ m * E.length := by
  induction E with
  | nil => exact Nat.zero_le _
  | cons x r ih =>
    have h1 := h x (List.mem_cons_self ..)
    have h2 := ih (fun y hy => h y (List.mem_cons_of_mem _ hy))
    rw [szE_cons, List.length_cons, Nat.mul_succ]
    omega
theorem size_of {b : Bool} {E : List Ent} (h : OkL E) (hl : E.length ≤ 255) : sizeD (ofE b E) = 2 + szE E := by
  unfold sizeD
  rw [if_pos ((may_iff b E).2 ⟨h, hl⟩)]
  rfl
theorem chk_iff {b : Bool} {E : List Ent} (h : OkL E) (hl : E.length ≤ 255) : chkN (ofE b E) = 0 ↔ 2 + szE E ≤ 960 := by
  unfold chkN
  rw [if_pos ((may_iff b E).2 ⟨h, hl⟩), size_of h hl]
  by_cases h9 : 960 < 2 + szE E
  · rw [if_pos h9]
    constructor
    · intro e; cases e
    · intro e; omega
  · rw [if_neg h9]
    exact ⟨fun _ => by omega, fun _ => rfl⟩
/-- The cut. -/
theorem cut_parts {b : Bool} {E : List Ent} (h : OkL E) (hl : E.length ≤ 255) (h2 : 2 ≤ E.length) (hs : 2 + szE E ≤ 1383) : ∃ c, 1 ≤ c ∧ c < E.length ∧ splitD (ofE b E) = (ofE b (E.take c), ofE b (E.drop c), true) ∧ 2 + szE (E.take c) ≤ 960 ∧ 2 + szE (E.drop c) ≤ 960 ∧
    ∀ j, 1 ≤ j → j < E.length → max (2 + szE (E.take c)) (2 + szE (E.drop c)) ≤ max (2 + szE (E.take j)) (2 + szE (E.drop j)) := by
  have hm := (may_iff b E).2 ⟨h, hl⟩
  have hkl : (ofE b E).keys.length = E.length := by show (E.map (·.1)).length = _; rw [List.length_map]
  have hc := cut_in (d := ofE b E) (by rw [hkl]; exact h2)
  rw [hkl] at hc
  have hgr : ∀ j, grD (ofE b E) j = max (2 + szE (E.take j)) (2 + szE (E.drop j)) := fun j => by
    unfold grD szE ofE
    dsimp only
    rw [List.map_take, List.map_take, List.map_drop, List.map_drop]
  have hsp := mid_spec (ofE b E) ((ofE b E).keys.length - 1) (by rw [hkl]; omega)
  rw [hkl] at hsp
  have hce : (midS (ofE b E) (E.length - 1)).1 = cutD (ofE b E) := by unfold cutD; rw [hkl]
  rw [hce] at hsp
  have hopt : ∀ j, 1 ≤ j → j < E.length → max (2 + szE (E.take (cutD (ofE b E)))) (2 + szE (E.drop (cutD (ofE b E)))) ≤ max (2 + szE (E.take j)) (2 + szE (E.drop j)) := fun j h1 h3 => by
    have h4 := hsp.2.2.2 j h1 (by omega)
    rw [hsp.2.2.1, hgr, hgr] at h4
    exact h4
  obtain ⟨j, j1, j2, j3, j4⟩ := half_small (E.map (fun x : Ent => x.1)) (E.map (fun x : Ent => x.2)) (by rw [List.length_map]; exact h2) (by simp) (fun i h1 h3 => by
    have hi : i < E.length := by rw [List.length_map] at h1; exact h1
    have := okE_iff.1 (h.ok E[i] (List.getElem_mem hi))
    simp only [List.getElem_map]
    omega) hs
  rw [List.length_map] at j2
  have k3 : 2 + szE (E.take j) ≤ 960 := by unfold szE; rw [List.map_take, List.map_take]; exact j3
  have k4 : 2 + szE (E.drop j) ≤ 960 := by unfold szE; rw [List.map_drop, List.map_drop]; exact j4
  have h5 := hopt j j1 j2
  refine ⟨cutD (ofE b E), hc.1, hc.2, ?_, by omega, by omega, hopt⟩
  unfold splitD
  rw [if_pos ⟨hm, by rw [hkl]; exact h2⟩]
  unfold ofE
  dsimp only
  rw [List.map_take, List.map_take, List.map_drop, List.map_drop]
theorem take_one_of {E : List Ent} (h : 1 ≤ E.length) : ∃ x r, E = x :: r := by
  cases E with
  | nil => simp at h
  | cons x r => exact ⟨x, r, rfl⟩
/-- An inner node's entries are short: a cut that leaves one ahead is not the best one. -/
theorem cut_two_ahead {E : List Ent} (h4 : 4 ≤ E.length) (hsm : ∀ x ∈ E, 3 + x.1.size + x.2.size ≤ 309) (hbig : 960 < 2 + szE E) {c : Nat} (hc : 1 ≤ c) (hopt : ∀ j, 1 ≤ j → j < E.length → max (2 + szE (E.take c)) (2 + szE (E.drop c)) ≤ max (2 + szE (E.take j)) (2 + szE (E.drop j))) : 2 ≤ c := by
  rcases Nat.lt_or_ge c 2 with h | h
  · exfalso
    have : c = 1 := by omega
    subst this
    obtain ⟨x, r, rfl⟩ := take_one_of (E := E) (by omega)
    obtain ⟨y, s, rfl⟩ := take_one_of (E := r) (by simp at h4; omega)
    have h1 := hsm x (by simp)
    have h2 := hsm y (by simp)
    have h3 := hopt 2 (by omega) (by omega)
    have e1 : szE ((x :: y :: s).take 1) = 3 + x.1.size + x.2.size := rfl
    have e2 : (x :: y :: s).drop 1 = y :: s := rfl
    have e3 : szE ((x :: y :: s).take 2) = 3 + x.1.size + x.2.size + (3 + y.1.size + y.2.size) := rfl
    have e4 : (x :: y :: s).drop 2 = s := rfl
    rw [e1, e2, e3, e4, szE_cons] at h3
    rw [szE_cons, szE_cons] at hbig
    omega
  · exact h
end Go.Proofs.Ytbeldjijnjgbfaa

namespace Go.Proofs.Ytbeldjijnjgbfaa
open Go.RowKit

theorem parts_small {b : Bool} {E : List Ent} (h : OkL E) (hl : E.length ≤ 255) (hne : E ≠ []) (hs : 2 + szE E ≤ 960) : partsN (ofE b E) = [ofE b E] := by
  unfold partsN
  rw [if_neg (by
    show ¬ E.map (·.1) = []
    simpa using hne), if_pos ((chk_iff h hl).2 hs)]
theorem parts_none (b : Bool) : partsN (ofE b []) = [] := if_pos rfl
theorem ok_short {E : List Ent} (h : OkL E) : ∀ x ∈ E, 3 + x.1.size + x.2.size ≤ 423 := fun x hx => by
  have := okE_iff.1 (h.ok x hx)
  omega
theorem last_split {E : List Ent} (h : 1 ≤ E.length) : ∃ L z, E = L ++ [z] := by
  rcases List.eq_nil_or_concat E with e | ⟨L, z, e⟩
  · rw [e] at h; simp at h
  · exact ⟨L, z, by rw [e, List.concat_eq_append]⟩
theorem up_last {L : List Ent} {z : Ent} (h : OkL (L ++ [z])) : ∀ x ∈ L, ltK x.1 z.1 = true := by
  have h1 := h.up
  unfold Up at h1
  rw [List.map_append, List.pairwise_append] at h1
  exact fun x hx => h1.2.2 x.1 (List.mem_map.2 ⟨x, hx, rfl⟩) z.1 (by simp)
theorem up_next {A B : List Ent} (h : OkL (A ++ B)) : ∀ x ∈ A, ∀ y ∈ B, ltK x.1 y.1 = true := by
  have h1 := h.up
  unfold Up at h1
  rw [List.map_append, List.pairwise_append] at h1
  exact fun x hx y hy => h1.2.2 x.1 (List.mem_map.2 ⟨x, hx, rfl⟩) y.1 (List.mem_map.2 ⟨y, hy, rfl⟩)
theorem parts_big {b : Bool} {E : List Ent} (h : OkL E) (hl : E.length ≤ 255) (hs1 : 960 < 2 + szE E) (hs2 : 2 + szE E ≤ 1383) (hin : b = false → ∀ x ∈ E, 3 + x.1.size + x.2.size ≤ 309) :
    ∃ P Q, E = P ++ Q ∧ P ≠ [] ∧ Q ≠ [] ∧ partsN (ofE b E) = [ofE b P, ofE b Q] ∧ 2 + szE P ≤ 960 ∧ 2 + szE Q ≤ 960 ∧ (b = false → 2 ≤ P.length ∧ 2 ≤ Q.length) := by
  have h3 := szE_le (ok_short h)
  have hne : E ≠ [] := by intro e; rw [e] at hs1; simp [szE_nil] at hs1
  obtain ⟨c, c1, c2, c3, c4, c5, c6⟩ := cut_parts (b := b) h hl (by omega) hs2
  have hP : OkL (E.take c) := h.part (List.take_sublist _ _)
  have hQ : OkL (E.drop c) := h.part (List.drop_sublist _ _)
  have hPl : (E.take c).length = c := by rw [List.length_take]; omega
  have hQl : (E.drop c).length = E.length - c := List.length_drop
  have hchk : chkN (ofE b E) ≠ 0 := fun e => by have := (chk_iff h hl).1 e; omega
  have hcut : E.take c ++ E.drop c = E := List.take_append_drop c E
  have hk1 : (splitD (ofE b E)).1.keys = (E.take c).map (·.1) := by rw [c3]; rfl
  have hk2 : (splitD (ofE b E)).2.1.keys = (E.drop c).map (·.1) := by rw [c3]; rfl
  have h2c : b = false → 2 ≤ c := fun hb => by
    have h4 := szE_le (hin hb)
    exact cut_two_ahead (by omega) (hin hb) hs1 c1 c6
  by_cases hmv : (ofE b E).leaf = false ∧ (splitD (ofE b E)).2.1.keys.length = 1 ∧ 2 < (splitD (ofE b E)).1.keys.length
  · obtain ⟨m1, m2, m3⟩ := hmv
    have hb : b = false := m1
    subst hb
    rw [hk2, List.length_map] at m2
    rw [hk1, List.length_map] at m3
    obtain ⟨L, z, e1⟩ := last_split (E := E.take c) (by omega)
    obtain ⟨y, r, e2⟩ := take_one_of (E := E.drop c) (by omega)
    have hr : r = [] := by rw [e2] at m2; simpa using m2
    subst hr
    have hz := up_last (e1 ▸ hP)
    have hzy : ltK z.1 y.1 = true := up_next (A := E.take c) (B := E.drop c) (by rw [hcut]; exact h) z (by rw [e1]; simp) y (by rw [e2]; simp)
    have hokz := h.ok z (by rw [← hcut, e1]; simp)
    have hoky := h.ok y (by rw [← hcut, e2]; simp)
    refine ⟨L, [z, y], by rw [← hcut, e1, e2]; simp, ?_, by simp, ?_, ?_, ?_, fun _ => ⟨?_, by simp⟩⟩
    · intro e; rw [e1, e] at m3; simp at m3
    · unfold partsN
      rw [if_neg (by show ¬ E.map (·.1) = []; simpa using hne), if_neg hchk, if_pos ⟨m1, by rw [hk2, List.length_map]; exact m2, by rw [hk1, List.length_map]; exact m3⟩]
      rw [c3, e1, e2]
      dsimp only
      have hg1 : (ofE false (L ++ [z])).keys.getLastD noT = z.1 := by unfold ofE; simp
      have hg2 : (ofE false (L ++ [z])).vals.getLastD noT = z.2 := by unfold ofE; simp
      have hLz : (L ++ [z]).length ≤ 255 := by rw [← e1, hPl]; omega
      rw [hg1, hg2, without_eq (e1 ▸ hP) hLz, with_eq (e2 ▸ hQ) (by simp) _ _ hokz]
      have hd1 : dropE z.1 (L ++ [z]) = L := by
        have := drop_cut (key := z.1) (A := L) (M := [(z.1, z.2)]) (B := []) hz (fun x hx => by cases hx) (.inr ⟨z.2, rfl⟩)
        simpa using this
      have hd2 : dropE z.1 [y] = [y] := by
        have := drop_cut (key := z.1) (A := []) (M := []) (B := [y]) (fun x hx => by cases hx) (fun x hx => by rw [List.mem_singleton] at hx; rw [hx]; exact hzy) (.inl rfl)
        simpa using this
      have hi : insE z.1 z.2 [y] = [z, y] := by
        have := ins_cut (key := z.1) (val := z.2) (B := [y]) (fun x hx => by rw [List.mem_singleton] at hx; rw [hx]; exact hzy) [] (fun x hx => by cases hx)
        simpa using this
      rw [hd1, hd2, hi]
    · rw [e1, szE_app] at c4; omega
    · have k1 := okE_iff.1 hokz
      have k2 := okE_iff.1 hoky
      rw [szE_cons, szE_cons, szE_nil]
      omega
    · rw [e1, List.length_append, List.length_singleton] at m3; omega
  · refine ⟨E.take c, E.drop c, hcut.symm, ?_, ?_, ?_, c4, c5, fun hb => ⟨by rw [hPl]; exact h2c hb, ?_⟩⟩
    · intro e; rw [e] at hPl; simp at hPl; omega
    · intro e; rw [e] at hQl; simp at hQl; omega
    · unfold partsN
      rw [if_neg (by show ¬ E.map (·.1) = []; simpa using hne), if_neg hchk, if_neg hmv, c3]
    · rcases Nat.lt_or_ge (E.drop c).length 2 with hq | hq
      · exfalso
        have h4 := szE_le (hin hb)
        refine hmv ⟨hb, by rw [hk2, List.length_map]; omega, by rw [hk1, List.length_map]; omega⟩
      · exact hq
end Go.Proofs.Ytbeldjijnjgbfaa

namespace Go.Proofs.Ytbeldjijnjgbfaa
open Go.RowKit

/-- What the children of an inner node of level i + 1 are. -/
structure InC (S : StD) (i : Nat) (C : List ChD) : Prop where
  ok : OkL (C.map (·.1))
  len : C.length ≤ 255
  ne : C ≠ []
  ch : ∀ c ∈ C, c.2.1 ≠ [] ∧ (∀ x ∈ c.2.1, ltK x.1 c.1.1 = false) ∧ ∃ m, (∀ h, h ≤ 20 → loadN S c.1.2 h = (m, 0)) ∧ TrN S i m c.2.1 c.2.2
  pw : C.Pairwise (fun c d => ∀ x ∈ c.2.1, ltK x.1 d.1.1 = true)
def wtI (i : Nat) (C : List ChD) : Nat := wtC C + (max C.length 2 - 2) * 2 ^ (i + 1)
theorem TrN.inC {S : StD} {i : Nat} {n : NodeD} {E : List Ent} {W : Nat} (h : TrN S (i + 1) n E W) : ∃ C, n = ofE false (C.map (·.1)) ∧ InC S i C ∧ E = prC C ∧ W = wtI i C ∧ lstC C = C := by
  obtain ⟨C, h1, h2, h3, h4, h5, h6, h7, h8, h9⟩ := h
  exact ⟨C, h1, ⟨h2, h3, h4, h7, h8⟩, h5, h6, h9⟩
theorem InC.tr {S : StD} {i : Nat} {C : List ChD} (h : InC S i C) (hl : lstC C = C) : TrN S (i + 1) (ofE false (C.map (·.1))) (prC C) (wtI i C) := ⟨C, rfl, h.ok, h.len, h.ne, rfl, rfl, h.ch, h.pw, hl⟩
theorem InC.grow {S T : StD} (hg : GrowS S T) {i : Nat} {C : List ChD} (h : InC S i C) : InC T i C := by
  refine ⟨h.ok, h.len, h.ne, fun c hc => ?_, h.pw⟩
  obtain ⟨k1, k2, m, k3, k4⟩ := h.ch c hc
  exact ⟨k1, k2, m, fun j hj => load_grow hg (k3 20 (Nat.le_refl _)) hj, k4.grow hg i⟩
theorem InC.fore {S : StD} {i : Nat} {P Q : List ChD} (h : InC S i (P ++ Q)) (hne : P ≠ []) : InC S i P := by
  have h1 := h.ok
  rw [List.map_append] at h1
  have h2 := h.len
  rw [List.length_append] at h2
  exact ⟨h1.part (List.sublist_append_left _ _), by omega, hne, fun c hc => h.ch c (List.mem_append_left _ hc), (List.pairwise_append.1 h.pw).1⟩
theorem InC.hind {S : StD} {i : Nat} {P Q : List ChD} (h : InC S i (P ++ Q)) (hne : Q ≠ []) : InC S i Q := by
  have h1 := h.ok
  rw [List.map_append] at h1
  have h2 := h.len
  rw [List.length_append] at h2
  exact ⟨h1.part (List.sublist_append_right _ _), by omega, hne, fun c hc => h.ch c (List.mem_append_right _ hc), (List.pairwise_append.1 h.pw).2.1⟩
theorem least_low {k : ByteArray} (h : 0 < k.size) : ltK k leastT = false := by
  cases hk : ltK k leastT with
  | false => rfl
  | true =>
    exfalso
    have h1 := (ltK_iff k leastT).1 hk
    have h2 : leastT.toList = [0] := by rw [ByteArray.toList_eq]
    rw [h2, ByteArray.toList_eq] at h1
    have h3 : k.data.toList.length = k.size := by simp
    cases hl : k.data.toList with
    | nil => rw [hl] at h3; simp at h3; omega
    | cons c r =>
      rw [hl, List.cons_lt_cons_iff] at h1
      rcases h1 with e | ⟨_, e⟩
      · exact absurd e (by rw [UInt8.lt_iff_toNat_lt]; show ¬ c.toNat < 0; omega)
      · cases e
theorem lst_pr (C : List ChD) : prC (lstC C) = prC C := by
  cases C with
  | nil => rfl
  | cons c r => show prC (((leastT, c.1.2), c.2) :: r) = _; rw [prC_cons, prC_cons]
theorem lst_wt (i : Nat) (C : List ChD) : wtI i (lstC C) = wtI i C := by
  cases C with
  | nil => rfl
  | cons c r => rfl
theorem lst_node (C : List ChD) : leastF (ofE false (C.map (·.1))) = ofE false ((lstC C).map (·.1)) := by
  unfold leastF
  rw [if_neg (by show ¬ false = true; decide)]
  cases C with
  | nil => rfl
  | cons c r => rfl
theorem InC.lst {S : StD} {i : Nat} {C : List ChD} (h : InC S i C) : InC S i (lstC C) := by
  cases C with
  | nil => exact h
  | cons c r =>
    have hok := h.ok
    have hc := okE_iff.1 (hok.ok c.1 (by simp))
    have hcc := h.ch c (List.mem_cons_self ..)
    have hlow : ∀ k : ByteArray, ltK c.1.1 k = true → ltK leastT k = true := fun k hk => by
      rcases ltK_tri leastT c.1.1 with e | e | e
      · exact ltK_tr e hk
      · rw [e]; exact hk
      · rw [least_low hc.1] at e; cases e
    obtain ⟨k1, _, m, k3, k4⟩ := hcc
    have hpk : ∀ x ∈ c.2.1, 0 < x.1.size := fun x hx => (okE_iff.1 ((k4.up i).ok x hx)).1
    refine ⟨⟨?_, fun x hx => ?_⟩, h.len, by unfold lstC; simp, fun d hd => ?_, ?_⟩
    · have h1 := hok.up
      unfold lstC Up at *
      rw [List.map_cons, List.map_cons] at h1 ⊢
      have h2 := List.pairwise_cons.1 h1
      exact List.pairwise_cons.2 ⟨fun k hk => hlow k (h2.1 k hk), h2.2⟩
    · unfold lstC at hx
      rw [List.map_cons] at hx
      rcases List.mem_cons.1 hx with e | e
      · rw [e]; exact okE_iff.2 ⟨by show 0 < leastT.size; decide, by show leastT.size ≤ 300; decide, hc.2.2⟩
      · exact hok.ok x (by rw [List.map_cons]; exact List.mem_cons_of_mem _ e)
    · unfold lstC at hd
      rcases List.mem_cons.1 hd with e | e
      · subst e
        exact ⟨k1, fun x hx => least_low (hpk x hx), m, k3, k4⟩
      · exact h.ch d (List.mem_cons_of_mem _ e)
    · have h1 := List.pairwise_cons.1 h.pw
      unfold lstC
      exact List.pairwise_cons.2 ⟨h1.1, h1.2⟩
def RoomS (S : StD) (k : Nat) : Prop := ((S.l.length + k : Nat) : Int) ≤ S.room ∧ S.l.length + k ≤ 1000000
theorem keep_one {S : StD} {n : NodeD} (hc : chkN n = 0) (hr : RoomS S 1) : keepL S [n] [] = (([(n.keys.headD noT, dig6 S.l.length)], 0), { S with l := S.l ++ [encD n] }) := by
  have h1 := put_ok hc (S := S) (by have := hr.1; omega)
  unfold keepL
  rw [h1]
  dsimp only
  rw [if_neg (fun e => e rfl)]
  rfl
theorem keep_two {S : StD} {n m : NodeD} (hc : chkN n = 0) (hd : chkN m = 0) (hr : RoomS S 2) : keepL S [n, m] [] = (([(n.keys.headD noT, dig6 S.l.length), (m.keys.headD noT, dig6 (S.l.length + 1))], 0), { S with l := (S.l ++ [encD n]) ++ [encD m] }) := by
  have h1 := put_ok hc (S := S) (by have := hr.1; omega)
  have h2 := put_ok hd (S := { S with l := S.l ++ [encD n] }) (by have := hr.1; show ((S.l ++ [encD n]).length : Int) < S.room; simp; omega)
  unfold keepL
  rw [h1]
  dsimp only
  rw [if_neg (fun e => e rfl)]
  unfold keepL
  rw [h2]
  dsimp only
  rw [if_neg (fun e => e rfl)]
  unfold keepL
  simp
end Go.Proofs.Ytbeldjijnjgbfaa

namespace Go.Proofs.Ytbeldjijnjgbfaa
open Go.RowKit

/-- Trees of one level that are kept, one behind the other. -/
structure Frs (S : StD) (i : Nat) (D : List ChD) : Prop where
  ch : ∀ c ∈ D, c.2.1 ≠ [] ∧ (∀ x ∈ c.2.1, ltK x.1 c.1.1 = false) ∧ ∃ m, (∀ h, h ≤ 20 → loadN S c.1.2 h = (m, 0)) ∧ TrN S i m c.2.1 c.2.2
  ok : ∀ c ∈ D, okE c.1.1 c.1.2 = true
  pw : D.Pairwise (fun c d => ∀ x ∈ c.2.1, ltK x.1 d.1.1 = true)
/-- What keep comes to. -/
structure KeptN (S : StD) (i : Nat) (n : NodeD) (E : List Ent) (W : Nat) (D : List ChD) (T : StD) : Prop where
  eq : keepN S n = ((D.map (·.1), 0), T)
  gr : GrowS S T
  ln : T.l.length ≤ S.l.length + 2
  fr : Frs T i D
  pr : prC D = E
  wt : (D.length = 1 ∧ wtC D = W) ∨ (D.length = 2 ∧ wtC D + (if i = 0 then 0 else 2 * 2 ^ i) = W)
theorem dig_size (n : Nat) : (dig6 n).size = 6 := digF_size 6 n _
theorem head_low {E : List Ent} {x : Ent} {r : List Ent} (h : OkL E) (e : E = x :: r) : ∀ y ∈ E, ltK y.1 x.1 = false := by
  subst e
  intro y hy
  rcases List.mem_cons.1 hy with e | e
  · rw [e]; exact ltK_irr _
  · have h1 := List.pairwise_cons.1 (show Up (x.1 :: r.map (·.1)) from h.up)
    exact ltK_as (h1.1 y.1 (List.mem_map.2 ⟨y, e, rfl⟩))
/-- One part of a leaf, kept. -/
theorem leaf_load {T : StD} {P : List Ent} {ref : ByteArray} (hl : ∀ h, h ≤ 20 → loadN T ref h = (leastF (ofE true P), 0)) (hP : OkL P) (hn : P.length ≤ 255) : ∃ m, (∀ h, h ≤ 20 → loadN T ref h = (m, 0)) ∧ TrN T 0 m P 0 :=
  ⟨ofE true P, fun h hh => hl h hh, rfl, hP, hn, rfl⟩
theorem inner_load {T : StD} {i : Nat} {C : List ChD} {ref : ByteArray} (hl : ∀ h, h ≤ 20 → loadN T ref h = (leastF (ofE false (C.map (·.1))), 0)) (hC : InC T i C) : ∃ m, (∀ h, h ≤ 20 → loadN T ref h = (m, 0)) ∧ TrN T (i + 1) m (prC C) (wtI i C) := by
  refine ⟨_, hl, ?_⟩
  rw [lst_node, ← lst_pr, ← lst_wt]
  exact hC.lst.tr (lst_lst C)
theorem pr_ne {S : StD} {i : Nat} {C : List ChD} (h : InC S i C) : prC C ≠ [] := by
  cases C with
  | nil => exact absurd rfl h.ne
  | cons c r =>
    rw [prC_cons]
    have := (h.ch c (List.mem_cons_self ..)).1
    simp [this]
/-- Pairs of an inner node are not below its first key. -/
theorem pr_low {S : StD} {i : Nat} {C : List ChD} {c : ChD} {r : List ChD} (h : InC S i C) (e : C = c :: r) : ∀ x ∈ prC C, ltK x.1 c.1.1 = false := by
  subst e
  intro x hx
  obtain ⟨d, hd, hxd⟩ := mem_prC hx
  have h1 := (h.ch d hd).2.1 x hxd
  rcases List.mem_cons.1 hd with e | e
  · rw [e] at h1; exact h1
  · have h2 := List.pairwise_cons.1 (show Up (c.1.1 :: (r.map (·.1)).map (·.1)) from h.ok.up)
    have h3 := h2.1 d.1.1 (List.mem_map.2 ⟨d.1, List.mem_map.2 ⟨d, e, rfl⟩, rfl⟩)
    cases hk : ltK x.1 c.1.1 with
    | false => rfl
    | true => rw [ltK_tr hk h3] at h1; cases h1
theorem keep_leaf {S : StD} {E : List Ent} (h : OkL E) (hl : E.length ≤ 255) (hne : E ≠ []) (hs : 2 + szE E ≤ 1383) (hr : RoomS S 2) : ∃ D T, KeptN S 0 (ofE true E) E 0 D T := by
  by_cases hsm : 2 + szE E ≤ 960
  · have hc := (chk_iff (b := true) h hl).2 hsm
    obtain ⟨x, r, e⟩ := take_one_of (E := E) (by cases E with | nil => exact absurd rfl hne | cons _ _ => simp)
    have hk : keepN S (ofE true E) = (([(x.1, dig6 S.l.length)], 0), { S with l := S.l ++ [encD (ofE true E)] }) := by
      unfold keepN
      rw [parts_small h hl hne hsm, keep_one hc ⟨by have := hr.1; omega, by have := hr.2; omega⟩]
      rw [e]; rfl
    have hx := okE_iff.1 (h.ok x (by rw [e]; simp))
    have hld : ∀ j, j ≤ 20 → loadN { S with l := S.l ++ [encD (ofE true E)] } (dig6 S.l.length) j = (leastF (ofE true E), 0) := fun j hj => put_load hc (by have := hr.2; omega) (.inl rfl) hj
    refine ⟨[((x.1, dig6 S.l.length), (E, 0))], _, hk, ⟨rfl, _, rfl⟩, by show (S.l ++ [_]).length ≤ _; simp, ⟨fun c hc2 => ?_, fun c hc2 => ?_, List.pairwise_singleton ..⟩, by unfold prC; simp, .inl ⟨rfl, rfl⟩⟩
    · rw [List.mem_singleton] at hc2
      subst hc2
      exact ⟨hne, fun z hz => head_low (E := E) (x := x) (r := r) h e z hz, leaf_load hld h hl⟩
    · rw [List.mem_singleton] at hc2
      subst hc2
      exact okE_iff.2 ⟨hx.1, hx.2.1, by show (dig6 _).size ≤ 120; rw [dig_size]; omega⟩
  · obtain ⟨P, Q, rfl, hP, hQ, hpt, hp1, hq1, _⟩ := parts_big (b := true) h hl (by omega) hs (fun e => by cases e)
    have hoP : OkL P := h.part (List.sublist_append_left _ _)
    have hoQ : OkL Q := h.part (List.sublist_append_right _ _)
    rw [List.length_append] at hl
    have hcP := (chk_iff (b := true) hoP (by omega)).2 hp1
    have hcQ := (chk_iff (b := true) hoQ (by omega)).2 hq1
    obtain ⟨x, r, e⟩ := take_one_of (E := P) (by cases P with | nil => exact absurd rfl hP | cons _ _ => simp)
    obtain ⟨y, t, e2⟩ := take_one_of (E := Q) (by cases Q with | nil => exact absurd rfl hQ | cons _ _ => simp)
    have hk : keepN S (ofE true (P ++ Q)) = (([(x.1, dig6 S.l.length), (y.1, dig6 (S.l.length + 1))], 0), { S with l := (S.l ++ [encD (ofE true P)]) ++ [encD (ofE true Q)] }) := by
      unfold keepN
      rw [hpt, keep_two hcP hcQ hr]
      rw [e, e2]; rfl
    have hx := okE_iff.1 (hoP.ok x (by rw [e]; simp))
    have hy := okE_iff.1 (hoQ.ok y (by rw [e2]; simp))
    have hl1 : ∀ j, j ≤ 20 → loadN { S with l := (S.l ++ [encD (ofE true P)]) ++ [encD (ofE true Q)] } (dig6 S.l.length) j = (leastF (ofE true P), 0) := fun j hj =>
      load_grow (S := { S with l := S.l ++ [encD (ofE true P)] }) (T := { S with l := (S.l ++ [encD (ofE true P)]) ++ [encD (ofE true Q)] }) ⟨rfl, [encD (ofE true Q)], rfl⟩ (put_load hcP (by have := hr.2; omega) (.inl rfl) hj) hj
    have hl2 : ∀ j, j ≤ 20 → loadN { S with l := (S.l ++ [encD (ofE true P)]) ++ [encD (ofE true Q)] } (dig6 (S.l.length + 1)) j = (leastF (ofE true Q), 0) := fun j hj => by
      have h9 := put_load (S := { S with l := S.l ++ [encD (ofE true P)] }) hcQ (by show (S.l ++ [_]).length < _; have := hr.2; simp; omega) (.inl rfl) hj
      have e9 : ({ S with l := S.l ++ [encD (ofE true P)] } : StD).l.length = S.l.length + 1 := by show (S.l ++ [_]).length = _; simp
      rw [e9] at h9
      exact h9
    refine ⟨[((x.1, dig6 S.l.length), (P, 0)), ((y.1, dig6 (S.l.length + 1)), (Q, 0))], _, hk, ⟨rfl, _, List.append_assoc _ _ _⟩, by show ((S.l ++ [_]) ++ [_]).length ≤ _; simp, ⟨fun c hc2 => ?_, fun c hc2 => ?_, ?_⟩, by unfold prC; simp, .inr ⟨rfl, rfl⟩⟩
    · rcases List.mem_cons.1 hc2 with e9 | hc2
      · subst e9; exact ⟨hP, fun z hz => head_low (E := P) (x := x) (r := r) hoP e z hz, leaf_load (P := P) hl1 hoP (by omega)⟩
      · rw [List.mem_singleton] at hc2
        subst hc2; exact ⟨hQ, fun z hz => head_low (E := Q) (x := y) (r := t) hoQ e2 z hz, leaf_load (P := Q) hl2 hoQ (by omega)⟩
    · rcases List.mem_cons.1 hc2 with e9 | hc2
      · subst e9; exact okE_iff.2 ⟨hx.1, hx.2.1, by show (dig6 _).size ≤ 120; rw [dig_size]; omega⟩
      · rw [List.mem_singleton] at hc2
        subst hc2; exact okE_iff.2 ⟨hy.1, hy.2.1, by show (dig6 _).size ≤ 120; rw [dig_size]; omega⟩
    · refine List.pairwise_cons.2 ⟨fun d hd => ?_, List.pairwise_singleton ..⟩
      rw [List.mem_singleton] at hd
      subst hd
      exact fun z hz => up_next h z hz y (by rw [e2]; simp)
end Go.Proofs.Ytbeldjijnjgbfaa
