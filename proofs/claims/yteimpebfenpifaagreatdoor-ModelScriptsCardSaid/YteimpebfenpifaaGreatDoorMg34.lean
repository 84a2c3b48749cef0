/-
  Texts put together: KeysRows, MrF, MoKept.
-/
import Derived.Test.YteimpebfenpifaaGreatDoorMg4
import Derived.Laws.AppendOwnNone
import Derived.Test.YteimpebfenpifaaGreatDoorMg32
import Derived.Test.YteimpebfenpifaaGreatDoorMg9
import Derived.Sort.Walk0
import Derived.Test.YteimpebfenpifaaGreatDoorMg30
namespace Go.Proofs.YteimpebfenpifaaGreatDoor
open Go.RowKit Go.ChangeShapes Go.WideShapes Go.ChangeAt

theorem wp_keys_rows {ops : Array Oper} {rest : List Oper} {o : Oper} {a : Act} {Q : Exit → Act → World → Prop} (W : World) (hgd : o.guard = none) (s x : Operand)
    (ho : o.op = .call { callee := .builtin .append, args := #[s, x], argTypes := #[31, 31] })
    (base b2 : Nat) (v xv : Value) (l cs : List ByteArray) (hs : a.eval s = v) (hb : Ks W base v l) (hx : a.eval x = xv) (hc : Ks W b2 xv cs)
    (hbytes : l.length + cs.length ≤ 2000000) (hbase : base ≤ W.heap.size)
    (h : ∀ v' w', Ks w' base v' (l ++ cs) → W.grownBy w' v.ownBlock → wpList Tryz.prog ops Q rest (a.put o.dst v') w') : wpList Tryz.prog ops Q (o :: rest) a W := by
  rcases hc.form with ⟨rfl, rfl⟩ | ⟨g, cap, rfl, _, _, _, _⟩
  · obtain ⟨i0, hi, _⟩ := info_parts infoKey
    refine wpList_append_own_none hgd s x 31 ho base 9 i0 1 Tryz.underlying31 hi v l.length _ hs hb hx (h v W (by rw [List.append_nil]; exact hb) ⟨rfl, rfl, rfl, Nat.le_refl _, fun _ _ _ => rfl⟩)
  · refine wp_keys_push W hgd s x ho base v l hs hb ⟨g, 0, none⟩ cs.length cap cs hx rfl (fun j u hu => ?_) hbytes hbase (fun v' w' h1 h2 _ => h v' w' h1 h2)
    have := World.ownsRow.cells hc (g := g) rfl j (.string u) (by rw [List.getElem?_map, hu]; rfl)
    exact this
end Go.Proofs.YteimpebfenpifaaGreatDoor

namespace Go.Proofs.YteimpebfenpifaaGreatDoor
open Go Go.RowKit Go.ChangeShapes Go.WideShapes Go.ChangeAt

abbrev leB (a b : ByteArray) : Prop := a.data.toList ≤ b.data.toList
theorem ins_sorted {F : List ByteArray} (h : F.Pairwise leB) {q : Nat} {c : ByteArray} (h1 : ∀ x ∈ F.drop q, c.data.toList < x.data.toList) (h2 : ∀ x ∈ F.take q, leB x c) : (F.take q ++ [c] ++ F.drop q).Pairwise leB := by
  rw [List.pairwise_append, List.pairwise_append]
  refine ⟨⟨h.sublist (List.take_sublist ..), List.pairwise_singleton .., fun a ha b hb => by rw [List.mem_singleton] at hb; subst hb; exact h2 a ha⟩, h.sublist (List.drop_sublist ..), fun a ha b hb => ?_⟩
  rcases List.mem_append.1 ha with ha | ha
  · exact List.le_trans (h2 a ha) (List.le_of_lt (h1 b hb))
  · rw [List.mem_singleton] at ha; subst ha; exact List.le_of_lt (h1 b hb)
theorem ins_perm (F : List ByteArray) (q : Nat) (c : ByteArray) : (F.take q ++ [c] ++ F.drop q).Perm (F ++ [c]) := by
  have h1 : (F.take q ++ [c] ++ F.drop q).Perm (F.take q ++ (F.drop q ++ [c])) := by
    rw [List.append_assoc]
    exact List.Perm.append_left _ List.perm_append_comm
  rw [← List.append_assoc, List.take_append_drop] at h1
  exact h1
theorem take_leB {F : List ByteArray} (h : F.Pairwise leB) {m : Nat} {y c : ByteArray} (hy : F[m]? = some y) (hc : leB y c) : ∀ x ∈ F.take (m + 1), leB x c := by
  intro x hx
  obtain ⟨hm, hm2⟩ := List.getElem?_eq_some_iff.1 hy
  rw [List.take_succ_eq_append_getElem hm] at hx
  rcases List.mem_append.1 hx with hx | hx
  · obtain ⟨i, hi, rfl⟩ := List.getElem_of_mem hx
    rw [List.length_take] at hi
    rw [List.getElem_take]
    have h3 := List.pairwise_iff_getElem.1 h i m (by omega) hm (by omega)
    rw [hm2] at h3
    exact List.le_trans h3 hc
  · rw [List.mem_singleton.1 hx, hm2]; exact hc
theorem drop_ltB {F : List ByteArray} {m : Nat} {y c : ByteArray} (hy : F[m]? = some y) (hc : c.data.toList < y.data.toList) (h : ∀ x ∈ F.drop (m + 1), c.data.toList < x.data.toList) : ∀ x ∈ F.drop m, c.data.toList < x.data.toList := by
  intro x hx
  obtain ⟨hm, hm2⟩ := List.getElem?_eq_some_iff.1 hy
  rw [List.drop_eq_getElem_cons hm] at hx
  rcases List.mem_cons.1 hx with hx | hx
  · rw [hx, hm2]; exact hc
  · exact h x hx
theorem str_gtrB0 (x y : ByteArray) (W : World) : (binOp .gtr 9 (.string x) (.string y)).run Tryz.prog W = .ok (.bool (!(Op.bytesLess x.toList y.toList || (x.toList == y.toList)))) W := by kernel_rfl
theorem gt_yes {x y : ByteArray} (h : y.data.toList < x.data.toList) (W : World) : (binOp .gtr 9 (.string x) (.string y)).run Tryz.prog W = .ok (.bool true) W := by
  have h1 : ¬ x.data.toList < y.data.toList := fun e => List.lt_irrefl _ (List.lt_trans h e)
  have h2 : x.data.toList ≠ y.data.toList := fun e => List.lt_irrefl _ (e ▸ h)
  rw [str_gtrB0, bytesLess_eq, ByteArray.toList_eq, ByteArray.toList_eq, decide_eq_false h1, beq_eq_false_iff_ne.2 h2]
  rfl
theorem gt_no {x y : ByteArray} (h : ¬ y.data.toList < x.data.toList) (W : World) : (binOp .gtr 9 (.string x) (.string y)).run Tryz.prog W = .ok (.bool false) W := by
  rw [str_gtrB0, bytesLess_eq, ByteArray.toList_eq, ByteArray.toList_eq]
  have h1 : (decide (x.data.toList < y.data.toList) || (x.data.toList == y.data.toList)) = true := by
    rcases List.le_iff_lt_or_eq.1 (List.not_lt.1 h) with e | e
    · rw [decide_eq_true e]; rfl
    · rw [e]; simp
  rw [h1]
  rfl
/-- A part of a row, behind a row. -/
theorem wp_keys_sub {ops : Array Oper} {rest : List Oper} {o : Oper} {a : Act} {Q : Exit → Act → World → Prop} (W : World) (hgd : o.guard = none) (s x : Operand)
    (ho : o.op = .call { callee := .builtin .append, args := #[s, x], argTypes := #[31, 31] })
    (base : Nat) (v : Value) (l cs : List ByteArray) (hs : a.eval s = v) (hb : Ks W base v l) (g off m c : Nat) (hx : a.eval x = .slice (some ⟨g, off, none⟩) m c) (hm : cs.length = m) (hc : ∀ i u, cs[i]? = some u → W.cell? ⟨g, off + i, none⟩ = some (.string u))
    (hbytes : l.length + cs.length ≤ 2000000) (hbase : base ≤ W.heap.size)
    (h : ∀ v' w', Ks w' base v' (l ++ cs) → W.grownBy w' v.ownBlock → wpList Tryz.prog ops Q rest (a.put o.dst v') w') : wpList Tryz.prog ops Q (o :: rest) a W := by
  refine wp_keys_push W hgd s x ho base v l hs hb ⟨g, off, none⟩ m c cs hx hm (fun j u hu => ?_) (by omega) hbase (fun v' w' h1 h2 _ => h v' w' h1 h2)
  rw [add_plain]
  exact hc j u hu
/-- The same, of a row that may be none. -/
theorem wp_keys_some {ops : Array Oper} {rest : List Oper} {o : Oper} {a : Act} {Q : Exit → Act → World → Prop} (W : World) (hgd : o.guard = none) (s x : Operand)
    (ho : o.op = .call { callee := .builtin .append, args := #[s, x], argTypes := #[31, 31] })
    (base : Nat) (v : Value) (l cs : List ByteArray) (hs : a.eval s = v) (hb : Ks W base v l) (xa : Option Addr) (m c : Nat) (hx : a.eval x = .slice xa m c) (hm : cs.length = m) (hn : xa = none → m = 0 ∧ c = 0) (hc : ∀ ad, xa = some ad → ∃ g off, ad = ⟨g, off, none⟩ ∧ ∀ i u, cs[i]? = some u → W.cell? ⟨g, off + i, none⟩ = some (.string u))
    (hbytes : l.length + cs.length ≤ 2000000) (hbase : base ≤ W.heap.size)
    (h : ∀ v' w', Ks w' base v' (l ++ cs) → W.grownBy w' v.ownBlock → wpList Tryz.prog ops Q rest (a.put o.dst v') w') : wpList Tryz.prog ops Q (o :: rest) a W := by
  cases xa with
  | none =>
    obtain ⟨rfl, rfl⟩ := hn rfl
    have h0 : cs = [] := List.eq_nil_of_length_eq_zero hm
    subst h0
    exact wp_keys_rows W hgd s x ho base base v (.slice none 0 0) l [] hs hb hx (Ks.nil _ _) hbytes hbase h
  | some ad =>
    obtain ⟨g, off, rfl, h1⟩ := hc ad rfl
    exact wp_keys_sub W hgd s x ho base v l cs hs hb g off m c hx hm h1 hbytes hbase h
/-- What stands there, in order. -/
structure NmJ (w : World) (p : RmP) (G : GD) (v : Value) (kids : List ByteArray) (F : List ByteArray) (wr : World) : Prop where
  o : Ks wr w.heap.size v F
  pm : F.Perm kids
  so : F.Pairwise leB
  r : RmAt wr p G
  b : Below w.heap.size w wr
theorem NmJ.shape {w : World} {p : RmP} {G : GD} {v : Value} {kids F : List ByteArray} {wr : World} (h : NmJ w p G v kids F wr) : ∃ a cap, v = .slice a F.length cap ∧ Hid ((a = none ∧ F = [] ∧ cap = 0) ∨ ∃ g, a = some ⟨g, 0, none⟩) ∧ Hid (F.length ≤ cap) := by
  rcases h.o.form with ⟨rfl, rfl⟩ | ⟨g, cap, rfl, _, _, h3, _⟩
  · exact ⟨none, 0, rfl, .inl ⟨rfl, rfl, rfl⟩, Nat.le_refl _⟩
  · exact ⟨_, cap, rfl, .inr ⟨g, rfl⟩, h3⟩
theorem kid_join {x l : PathD} {s : ByteArray} (hx : x ≠ []) (hn : ∀ c ∈ x, nameD c) (hs : splitD s = (l, 0)) : parD (joinD x) = ⟨joinD x.dropLast, x.getLastD noB, 0⟩ ∧ (joinD x.dropLast = s ↔ x.dropLast = l) := by
  have h1 := split_join hn
  have h2 := parD_ok (s := joinD x) (by rw [h1]) (by rw [h1]; exact hx)
  rw [h1] at h2
  exact ⟨h2, join_is (fun c hc => hn c (List.dropLast_subset _ hc)) hs⟩
end Go.Proofs.YteimpebfenpifaaGreatDoor

namespace Go.Proofs.YteimpebfenpifaaGreatDoor
open Go Go.RowKit

abbrev kpB : ByteArray := ⟨#[107, 101, 112, 116]⟩
abbrev kfB : ByteArray := ⟨#[102]⟩
abbrev stB : ByteArray := ⟨#[115, 116, 97, 121, 115]⟩
structure Kept (G : GD) : Prop where
  d : findL G.E [kpB] = some 1
  f : findL G.E [kpB, kfB] = some 2
  only : ∀ x ∈ G.E, x.2 = 2 → x.1 = [kpB, kfB]
  kids : kidsG G [kpB] = [kfB]
  t1 : (G.T[1]?).map (·.dir) = some true
  t2 : G.T[2]? = some ⟨false, stB⟩
def Aside (l : PathD) : Prop := l.head? ≠ some kpB
theorem Aside.ne {l : PathD} (h : Aside l) (r : PathD) : l ≠ kpB :: r := fun e => h (by rw [e]; rfl)
theorem Kept.len {G : GD} (h : Kept G) : 3 ≤ G.T.length := by
  have := (List.getElem?_eq_some_iff.1 h.t2).1
  omega
theorem kid_aside {l : PathD} (h : Aside l) (n : Nat) : kidG [kpB] (l, n) = none := by
  cases hk : kidG [kpB] (l, n) with
  | none => rfl
  | some c => exact absurd (kid_iff.1 hk) (h.ne [c])
theorem kept_grow {G : GD} (h : Kept G) {l : PathD} (hl : Aside l) {n : Nat} (hn : n ≠ 2) (T' : List Th) : Kept ⟨G.E ++ [(l, n)], G.T ++ T'⟩ := by
  have hlen := h.len
  refine ⟨?_, ?_, fun x hx h2 => ?_, ?_, ?_, ?_⟩
  · show findL (G.E ++ _) _ = _
    rw [findL_app, h.d]; rfl
  · show findL (G.E ++ _) _ = _
    rw [findL_app, h.f]; rfl
  · rcases List.mem_append.1 hx with hx | hx
    · exact h.only x hx h2
    · rw [List.mem_singleton.1 hx] at h2
      exact absurd h2 hn
  · show List.filterMap _ (G.E ++ _) = _
    rw [List.filterMap_append]
    have := h.kids
    unfold kidsG at this
    rw [this]
    simp [kid_aside hl]
  · show ((G.T ++ T')[1]?).map _ = _
    rw [List.getElem?_append_left (by omega)]; exact h.t1
  · show (G.T ++ T')[2]? = _
    rw [List.getElem?_append_left (by omega)]; exact h.t2
theorem filterMap_keep {α β : Type} (f : α → Option β) (p : α → Bool) : ∀ l : List α, (∀ x ∈ l, p x = false → f x = none) → (l.filter p).filterMap f = l.filterMap f
  | [], _ => rfl
  | x :: r, h => by
    have ih := filterMap_keep f p r (fun y hy => h y (List.mem_cons_of_mem _ hy))
    cases hp : p x with
    | true => rw [List.filter_cons_of_pos hp, List.filterMap_cons, List.filterMap_cons, ih]
    | false => rw [List.filter_cons_of_neg (by simp [hp]), ih, List.filterMap_cons, h x (List.mem_cons_self ..) hp]
theorem kept_drop {G : GD} (h : Kept G) {p : ByteArray} (hl : Aside (splitD p).1) : Kept (dropG G p) := by
  refine ⟨?_, ?_, fun x hx h2 => h.only x (List.mem_filter.1 hx).1 h2, ?_, h.t1, h.t2⟩
  · show findL (G.E.filter (fun x => !decide (x.1 = (splitD p).1))) _ = _
    rw [findL_filter (fun k => !decide (k = (splitD p).1)), if_pos (by simpa using fun e => hl.ne [] e.symm)]; exact h.d
  · show findL (G.E.filter (fun x => !decide (x.1 = (splitD p).1))) _ = _
    rw [findL_filter (fun k => !decide (k = (splitD p).1)), if_pos (by simpa using fun e => hl.ne [kfB] e.symm)]; exact h.f
  · show List.filterMap _ (G.E.filter _) = _
    rw [filterMap_keep]
    · exact h.kids
    · intro x _ hx
      have he : x.1 = (splitD p).1 := by simpa using hx
      have := kid_aside hl x.2
      rw [← he] at this
      exact this
theorem mv_aside {a b : PathD} (ha : Aside a) (ha0 : a ≠ []) (hb : Aside b) (hb0 : b ≠ []) (x r : PathD) : mvP a b x = kpB :: r ↔ x = kpB :: r := by
  unfold mvP
  split
  · rename_i hp
    obtain ⟨t, rfl⟩ := hp
    cases a with
    | nil => exact absurd rfl ha0
    | cons a0 a1 =>
      cases b with
      | nil => exact absurd rfl hb0
      | cons b0 b1 =>
        have h1 : a0 ≠ kpB := fun e => ha (by rw [e]; rfl)
        have h2 : b0 ≠ kpB := fun e => hb (by rw [e]; rfl)
        constructor
        · intro e; injection e with e _; exact absurd e h2
        · intro e; injection e with e _; exact absurd e h1
  · exact Iff.rfl
theorem fm_congr {α β : Type} {f g : α → Option β} : ∀ l : List α, (∀ x ∈ l, f x = g x) → l.filterMap f = l.filterMap g
  | [], _ => rfl
  | x :: r, h => by rw [List.filterMap_cons, List.filterMap_cons, h x (List.mem_cons_self ..), fm_congr r (fun y hy => h y (List.mem_cons_of_mem _ hy))]
theorem kept_move {G : GD} (h : Kept G) {p q : ByteArray} (hp : Aside (splitD p).1) (hp0 : (splitD p).1 ≠ []) (hq : Aside (splitD q).1) (hq0 : (splitD q).1 ≠ []) : Kept (moveG G p q) := by
  have hm := mv_aside hp hp0 hq hq0
  refine ⟨?_, ?_, fun x hx h2 => ?_, ?_, h.t1, h.t2⟩
  · show findL (G.E.map _) _ = _
    rw [findL_mapK (mvP (splitD p).1 (splitD q).1) [kpB] [kpB] G.E ((hm _ []).2 rfl) (fun y _ e => (hm _ []).1 e)]; exact h.d
  · show findL (G.E.map _) _ = _
    rw [findL_mapK (mvP (splitD p).1 (splitD q).1) [kpB, kfB] [kpB, kfB] G.E ((hm _ [kfB]).2 rfl) (fun y _ e => (hm _ [kfB]).1 e)]; exact h.f
  · obtain ⟨y, hy, rfl⟩ := List.mem_map.1 hx
    have := h.only y hy h2
    exact (hm _ [kfB]).2 this
  · show List.filterMap _ (G.E.map _) = _
    rw [List.filterMap_map, ← h.kids]
    unfold kidsG
    refine fm_congr _ fun x _ => ?_
    apply Option.ext
    intro c
    show kidG [kpB] (mvP _ _ x.1, x.2) = some c ↔ _
    rw [kid_iff, kid_iff]
    exact hm _ [c]
theorem kept_text {G : GD} (h : Kept G) {n : Nat} (hn : n ≠ 2) (s : ByteArray) : Kept (textSet G n s) := by
  refine ⟨h.d, h.f, h.only, h.kids, ?_, ?_⟩
  · show ((G.T.set n _)[1]?).map _ = _
    rw [List.getElem?_set]
    split
    · rename_i e
      subst e
      have h1 := h.t1
      rw [if_pos (by have := h.len; omega)]
      cases ht : G.T[1]? with
      | none => rw [ht] at h1; cases h1
      | some t => rw [ht] at h1; exact h1
    · exact h.t1
  · show (G.T.set n _)[2]? = _
    rw [List.getElem?_set, if_neg hn]; exact h.t2
theorem lead_aside {G : GD} (h : Kept G) {p : ByteArray} (hp : Aside (splitD p).1) (he : (leadG G p).2 = 0) : (leadG G p).1 ≠ 2 := by
  intro h2
  have ha := (leadG_at he).2
  rw [h2] at ha
  by_cases h0 : (splitD p).1 = []
  · rw [h0] at ha
    cases ha
  · rw [atE_ne h0] at ha
    exact hp.ne _ (h.only _ (findL_mem ha) rfl)
theorem file_ind {P : AnsD × GD → Prop} {G : GD} {p : ByteArray} {k : Nat → AnsD × GD} (h1 : ∀ e, P (noA e, G)) (h2 : (leadG G p).2 = 0 → P (k (leadG G p).1)) : P (fileG G p k) := by
  unfold fileG
  by_cases he : (leadG G p).2 = 0
  · rw [if_neg (fun e => e he)]
    by_cases hd : dirG G (leadG G p).1 = true
    · rw [if_pos hd]; exact h1 _
    · rw [if_neg hd]; exact h2 he
  · rw [if_pos he]; exact h1 _
theorem ite_c {P : AnsD × GD → Prop} {c : Prop} [Decidable c] {a b : AnsD × GD} (h1 : c → P a) (h2 : ¬ c → P b) : P (if c then a else b) := by
  by_cases h : c
  · rw [if_pos h]; exact h1 h
  · rw [if_neg h]; exact h2 h
theorem free_ne {G : GD} {p : ByteArray} (h : ¬ freeG G p ≠ 0) : (splitD p).1 ≠ [] := by
  intro e
  apply h
  unfold freeG
  by_cases h1 : (splitD p).2 ≠ 0
  · rw [if_pos h1]; exact h1
  · rw [if_neg h1, if_pos e]; decide
theorem root_split {p : ByteArray} (h0 : p ≠ rootB) (h : (splitD p).2 = 0) : (splitD p).1 ≠ [] := by
  intro e
  have := join_split h
  rw [e] at this
  exact h0 (this.symm.trans (by rfl))
theorem kept_do {G : GD} (h : Kept G) (o : OpD) (hp : Aside (splitD o.path).1) (hq : Aside (splitD o.dst).1) : Kept (doG G o).2 := by
  have hlen := h.len
  have hmk : ∀ b, Kept (makeG G o.path b).2 := fun b => by
    unfold makeG
    exact ite_c (P := fun q => Kept q.2) (fun _ => h) (fun _ => kept_grow h hp (by omega) _)
  have hfl : ∀ k : Nat → AnsD × GD, (∀ n, n ≠ 2 → Kept (k n).2) → Kept (fileG G o.path k).2 := fun k hk => file_ind (P := fun q => Kept q.2) (fun _ => h) (fun e => hk _ (lead_aside h hp e))
  unfold doG
  refine ite_c (P := fun q => Kept q.2) (fun _ => hmk _) (fun _ => ?_)
  refine ite_c (P := fun q => Kept q.2) (fun _ => hmk _) (fun _ => ?_)
  refine ite_c (P := fun q => Kept q.2) (fun _ => hfl _ (fun n hn => ite_c (P := fun q => Kept q.2) (fun _ => h) (fun _ => ?_))) (fun _ => ?_)
  · have := kept_grow h hq hn []
    rw [List.append_nil] at this
    exact this
  refine ite_c (P := fun q => Kept q.2) (fun _ => hfl _ (fun n hn => kept_drop h hp)) (fun _ => ?_)
  refine ite_c (P := fun q => Kept q.2) (fun _ => ?_) (fun _ => ?_)
  · refine ite_c (P := fun q => Kept q.2) (fun _ => h) (fun _ => ?_)
    refine ite_c (P := fun q => Kept q.2) (fun _ => h) (fun _ => ?_)
    refine ite_c (P := fun q => Kept q.2) (fun _ => h) (fun _ => ?_)
    exact ite_c (P := fun q => Kept q.2) (fun _ => h) (fun _ => kept_drop h hp)
  refine ite_c (P := fun q => Kept q.2) (fun _ => ?_) (fun _ => ?_)
  · refine ite_c (P := fun q => Kept q.2) (fun _ => h) (fun h0 => ?_)
    refine ite_c (P := fun q => Kept q.2) (fun _ => h) (fun h1 => ?_)
    refine ite_c (P := fun q => Kept q.2) (fun _ => h) (fun _ => ?_)
    refine ite_c (P := fun q => Kept q.2) (fun _ => h) (fun h2 => ?_)
    exact kept_move h hp (root_split h0 (leadG_at (Decidable.not_not.1 h1)).1) hq (free_ne h2)
  refine ite_c (P := fun q => Kept q.2) (fun _ => hfl _ (fun n hn => ite_c (P := fun q => Kept q.2) (fun _ => h) (fun _ => h))) (fun _ => ?_)
  refine ite_c (P := fun q => Kept q.2) (fun _ => hfl _ (fun n hn => ite_c (P := fun q => Kept q.2) (fun _ => h) (fun _ => ite_c (P := fun q => Kept q.2) (fun _ => h) (fun _ => kept_text h hn _)))) (fun _ => ?_)
  refine ite_c (P := fun q => Kept q.2) (fun _ => hfl _ (fun n hn => ite_c (P := fun q => Kept q.2) (fun _ => h) (fun _ => ite_c (P := fun q => Kept q.2) (fun _ => h) (fun _ => kept_text h hn _)))) (fun _ => ?_)
  refine ite_c (P := fun q => Kept q.2) (fun _ => ?_) (fun _ => ?_)
  · exact ite_c (P := fun q => Kept q.2) (fun _ => h) (fun _ => ite_c (P := fun q => Kept q.2) (fun _ => h) (fun _ => h))
  refine ite_c (P := fun q => Kept q.2) (fun _ => ?_) (fun _ => h)
  exact ite_c (P := fun q => Kept q.2) (fun _ => h) (fun _ => ite_c (P := fun q => Kept q.2) (fun _ => h) (fun _ => h))

/-! ### ahead, and behind -/
def ko1 : OpD := ⟨1, ⟨#[47, 107, 101, 112, 116]⟩, noB, 0, 0, noB⟩
def ko2 : OpD := ⟨0, ⟨#[47, 107, 101, 112, 116, 47, 102]⟩, noB, 0, 0, noB⟩
def ko3 : OpD := ⟨7, ⟨#[47, 107, 101, 112, 116, 47, 102]⟩, noB, 0, 0, stB⟩
def ko4 : OpD := ⟨6, ⟨#[47, 107, 101, 112, 116, 47, 102]⟩, noB, 0, 9, noB⟩
def ko5 : OpD := ⟨10, ⟨#[47, 107, 101, 112, 116]⟩, noB, 0, 0, noB⟩
def kg3 : GD := ⟨[([kpB], 1), ([kpB, kfB], 2)], [⟨true, noB⟩, ⟨true, noB⟩, ⟨false, stB⟩]⟩
theorem kc3 : (doG (doG (doG newG ko1).2 ko2).2 ko3).2 = kg3 := by decide +kernel
theorem kept_kg3 : Kept kg3 := ⟨by decide +kernel, by decide +kernel, by decide +kernel, by decide +kernel, by decide +kernel, by decide +kernel⟩
theorem ks4 : splitD ko4.path = ([kpB, kfB], 0) := by decide +kernel
theorem ks5 : splitD ko5.path = ([kpB], 0) := by decide +kernel
theorem TK.wf {b : Nat} {G : GD} {k : Nat} {K : Nat → Prop} {w : World} (h : TK b G k K w) : WfG G := by
  obtain ⟨x, _, _, h3, _⟩ := h
  exact h3.wf
theorem kept_read {G : GD} (hw : WfG G) (h : Kept G) : doG G ko4 = (⟨0, 5, stB, []⟩, G) := by
  have hl : leadG G ko4.path = (2, 0) := leadG_of hw (by rw [ks4]) (by rw [ks4, atE_ne (by decide)]; exact h.f)
  have hd : dirG G 2 = false := by unfold dirG; rw [h.t2]
  have ht : textG G 2 = stB := by unfold textG; rw [h.t2]
  have hc : cutB stB 0 9 = stB := by decide +kernel
  have hf : fileG G ko4.path (fun n => if ko4.off < 0 ∨ ko4.len < 0 then (noA 1, G) else (⟨0, ((cutB (textG G n) ko4.off.toNat ko4.len.toNat).size : Nat), cutB (textG G n) ko4.off.toNat ko4.len.toNat, []⟩, G)) = (⟨0, 5, stB, []⟩, G) := by
    unfold fileG
    rw [hl, if_neg (by decide), if_neg (by rw [hd]; decide)]
    show (if (0 : Int) < 0 ∨ (9 : Int) < 0 then (noA 1, G) else (⟨0, ((cutB (textG G 2) 0 9).size : Nat), cutB (textG G 2) 0 9, []⟩, G)) = _
    rw [if_neg (by decide), ht, hc]
    rfl
  exact hf
theorem kept_list {G : GD} (hw : WfG G) (h : Kept G) : doG G ko5 = (⟨0, 0, noB, [kfB]⟩, G) := by
  have hl : leadG G ko5.path = (1, 0) := leadG_of hw (by rw [ks5]) (by rw [ks5, atE_ne (by decide)]; exact h.d)
  have hd : dirG G 1 = true := by
    have h1 := h.t1
    unfold dirG
    cases ht : G.T[1]? with
    | none => rw [ht] at h1; cases h1
    | some t => rw [ht] at h1; injection h1
  show (if (leadG G ko5.path).2 ≠ 0 then (noA (leadG G ko5.path).2, G) else if dirG G (leadG G ko5.path).1 = false then (noA 11, G) else (⟨0, 0, noB, sortB (kidsG G (splitD ko5.path).1)⟩, G)) = _
  rw [hl, if_neg (by decide), if_neg (by rw [hd]; decide), ks5, h.kids]
  rfl
end Go.Proofs.YteimpebfenpifaaGreatDoor
