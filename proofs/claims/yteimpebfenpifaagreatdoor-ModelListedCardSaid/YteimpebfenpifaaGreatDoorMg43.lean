/-
  Texts put together: MoLd, MoTwo, KeysRows, MoLx.
-/
import Derived.Test.YteimpebfenpifaaGreatDoorMoMv
import Derived.Test.YteimpebfenpifaaGreatDoorMg40
import Derived.Test.YteimpebfenpifaaGreatDoorMg5
import Derived.Laws.AppendOwnNone
import Derived.Sort.Walk0
namespace Go.Proofs.YteimpebfenpifaaGreatDoor
open Go Go.RowKit

def liO (p : ByteArray) : OpD := ⟨10, p, noB, 0, 0, noB⟩
abbrev fileW : ByteArray := ⟨#[102, 105, 108, 101]⟩
abbrev dirW : ByteArray := ⟨#[100, 105, 114]⟩
theorem list_eq (G : GD) (p : ByteArray) : doG G (liO p) = if (leadG G p).2 ≠ 0 then (noA (leadG G p).2, G) else if dirG G (leadG G p).1 = false then (noA 11, G) else (⟨0, 0, noB, sortB (kidsG G (splitD p).1)⟩, G) := rfl
theorem sort_strict {l : List ByteArray} (h : l.Nodup) : (sortB l).Pairwise (fun a b => a.data.toList < b.data.toList) := by
  have h1 := sortB_sorted l
  have h2 : (sortB l).Nodup := (sortB_perm l).nodup_iff.2 h
  have h3 := h1.and h2
  refine h3.imp ?_
  rintro a b ⟨h4, h5⟩
  rcases List.le_iff_lt_or_eq.1 h4 with h | h
  · exact h
  · exact absurd (pb_ext h) h5
theorem listed {G : GD} (hw : WfG G) (p : ByteArray) :
    (∃ e, e ≠ 0 ∧ doG G (liO p) = (noA e, G) ∧ doG G (stO p) = (noA e, G)) ∨
    (∃ n : Nat, ∃ ns, doG G (liO p) = (noA 11, G) ∧ doG G (stO p) = (⟨0, n, fileW, ns⟩, G)) ∨
    ∃ ns : List ByteArray, doG G (liO p) = (⟨0, 0, noB, ns⟩, G) ∧ doG G (stO p) = (⟨0, (ns.length : Nat), dirW, []⟩, G) ∧ (splitD p).2 = 0 ∧ ns.length ≤ G.E.length ∧
      (∀ c ∈ ns, c.size ≤ 255 ∧ ∃ a : AnsD, doG G (stO (joinD ((splitD p).1 ++ [c]))) = (a, G) ∧ a.code = 0) ∧ ns.Pairwise (fun a b => a.data.toList < b.data.toList) := by
  by_cases h1 : (leadG G p).2 ≠ 0
  · refine .inl ⟨_, h1, by rw [list_eq, if_pos h1], ?_⟩
    rw [stat_eq]
    unfold statA
    rw [if_pos h1]
  · by_cases h2 : dirG G (leadG G p).1 = false
    · refine .inr (.inl ⟨(textG G (leadG G p).1).size, [digitsB (linksG G (leadG G p).1)], by rw [list_eq, if_neg h1, if_pos h2], ?_⟩)
      rw [stat_eq]
      unfold statA
      rw [if_neg h1, if_neg (by rw [h2]; decide)]
    · have h0 : (leadG G p).2 = 0 := Decidable.not_not.1 h1
      obtain ⟨l1, l2⟩ := leadG_at h0
      have hd : dirG G (leadG G p).1 = true := by simpa using h2
      refine .inr (.inr ⟨sortB (kidsG G (splitD p).1), by rw [list_eq, if_neg h1, if_neg h2], ?_, l1, ?_, ?_, sort_strict (kids_nodup hw _)⟩)
      · rw [stat_eq]
        unfold statA
        rw [if_neg h1, if_pos hd, sort_len]
      · rw [sort_len]; exact kids_len G _
      · intro c hc
        have hk : c ∈ kidsG G (splitD p).1 := (sortB_perm _).subset hc
        have hs := (kids_mem hw).1 hk
        obtain ⟨m, hm⟩ := Option.isSome_iff_exists.1 hs
        have hn : ∀ y ∈ (splitD p).1 ++ [c], nameD y := by
          rw [atE_snoc] at hm
          exact hw.names _ (findL_mem hm)
        have hj := split_join hn
        refine ⟨(hn c (by simp)).1.2.1, _, stat_eq _ _, ?_⟩
        rw [leadG_of hw (n := m) (by rw [hj]) (by rw [hj]; exact hm)]
        unfold statA
        rw [if_neg (fun e => e rfl)]
        by_cases h9 : dirG G m = true
        · rw [if_pos h9]
        · rw [if_neg h9]
end Go.Proofs.YteimpebfenpifaaGreatDoor

namespace Go.Proofs.YteimpebfenpifaaGreatDoor
open Go Go.RowKit Go.ChangeShapes Go.WideShapes Go.ChangeAt

structure LvT (w0 : World) (b : Nat) (G : GD) (k : Nat) (b2 : Nat) (G2 : GD) (k2 : Nat) (K : Nat → Prop) (w : World) : Prop where
  t2 : T2 b G k b2 G2 k2 K w
  bl : Below w0.heap.size w0 w
  it : It w
  low : ∀ j, j < w0.heap.size → K j
section
variable {w0 : World} {b : Nat} {G : GD} {k : Nat} {b2 : Nat} {G2 : GD} {k2 : Nat} {K : Nat → Prop} {w : World}
theorem LvT.swap (h : LvT w0 b G k b2 G2 k2 K w) : LvT w0 b2 G2 k2 b G k K w := ⟨h.t2.swap, h.bl, h.it, h.low⟩
theorem LvT.keep {w' : World} (h : LvT w0 b G k b2 G2 k2 K w) (hb : Below w.heap.size w w') : LvT w0 b G k b2 G2 k2 K w' := ⟨h.t2.keep hb, h.bl.trans (hb.mono h.bl.size), h.it.keep hb, h.low⟩
theorem LvT.drew (h : LvT w0 b G k b2 G2 k2 K w) : LvT w0 b G k b2 G2 k2 K w.drew := h.keep ⟨rfl, rfl, rfl, Nat.le_refl _, fun _ _ => rfl⟩
theorem LvT.alloc (h : LvT w0 b G k b2 G2 k2 K w) (o : Obj) : LvT w0 b G k b2 G2 k2 (fun j => K j ∨ j = w.heap.size) (w.alloc o) :=
  ⟨h.t2.more ((Below.refl _ _).alloc (Nat.le_refl _) _) (fun j => j = w.heap.size) (fun j hj => by rw [size_alloc]; omega), h.bl.trans (((Below.refl _ _).alloc (Nat.le_refl _) o).mono h.bl.size), h.it.keep ((Below.refl _ _).alloc (Nat.le_refl _) o), fun j hj => .inl (h.low j hj)⟩
theorem lt_copy (h : LvS w0 b G k K w) (hk : k ≤ 1000000) : Calls Tryz.prog 14 #[.pointer (some ⟨b, 0, none⟩)] w fun e w' => ∃ b2, e = .returned (.pointer (some ⟨b2, 0, none⟩)) ∧ LvT w0 b G k b2 G k K w' ∧ Below w.heap.size w w' := by
  refine (tk_copy h.tk hk).mono ?_
  rintro e w' ⟨b2, rfl, ht, hb⟩
  exact ⟨b2, rfl, ⟨ht, h.bl.trans (hb.mono h.bl.size), h.it.keep hb, h.low⟩, hb⟩
theorem lt_count (h : LvT w0 b G k b2 G2 k2 K w) (hk : k ≤ 1000000) : Calls Tryz.prog 19 #[.pointer (some ⟨b, 0, none⟩)] w fun e w' => e = .returned (.tuple #[.int .i64 (countG G).1, .int .i64 (countG G).2.1, .int .i64 (countG G).2.2]) ∧ LvT w0 b G k b2 G2 k2 K w' ∧ Below w.heap.size w w' := by
  refine (tk_count h.t2.one hk).mono ?_
  rintro e w' ⟨rfl, hb⟩
  exact ⟨rfl, h.keep hb, hb⟩
theorem lt_do (h : LvT w0 b G k b2 G2 k2 K w) (h0 : It w0) (hk : k ≤ 1000000) (o : OpD) (ho : okO o) {q : AnsD} {G' : GD} (hq : doG G o = (q, G')) :
    Calls Tryz.prog 17 #[.pointer (some ⟨b, 0, none⟩), opV o] w fun e w' => ∃ va vc, e = .returned (ansV q.code q.n q.data (.slice va q.names.length vc)) ∧
      ∃ K' : Nat → Prop, (∀ j, K j → K' j) ∧ LvT w0 b G' (k + 1) b2 G2 k2 K' w' ∧ Ks w' w.heap.size (.slice va q.names.length vc) q.names ∧ (∀ j, (Value.slice va q.names.length vc).ownBlock = some j → K' j) ∧ Kp K w w' := by
  have hd := t2_do h.t2 hk o (by have := ho.1; omega) (by have := ho.2.1; omega) (by have := ho.2.2; omega) h.it
  rw [hq] at hd
  refine hd.mono ?_
  rintro e w' ⟨va, vc, rfl, hks, hkp, htk⟩
  exact ⟨va, vc, rfl, _, fun j hj => .inl hj, ⟨htk, h.bl.trans (hkp.below h.bl.size h.low), h.it.kp h0 hkp h.low, fun j hj => .inl (h.low j hj)⟩, hks, fun j hj => .inr hj, hkp⟩
theorem LvT.bE (h : LvT w0 b G k b2 G2 k2 K w) : G.E.length ≤ k := h.t2.one.bE
end
theorem Ks.sl2 {w : World} {B : Nat} {va : Option Addr} {n vc : Nat} {l : List ByteArray} (h : Ks w B (.slice va n vc) l) : Sl w Value.string va l := by
  obtain ⟨_, _, e, hs, _⟩ := h.shape
  injection e with e1 e2 e3
  rw [e1]; exact hs
end Go.Proofs.YteimpebfenpifaaGreatDoor

namespace Go.Proofs.YteimpebfenpifaaGreatDoor
open Go.RowKit Go.ChangeShapes Go.WideShapes Go.ChangeAt

theorem wp_keys_rows {ops : Array Oper} {rest : List Oper} {o : Oper} {a : Act} {Q : Exit → Act → World → Prop} (W : World) (hgd : o.guard = none) (s x : Operand)
    (ho : o.op = .call { callee := .builtin .append, args := #[s, x], argTypes := #[31, 31] })
    (base b2 : Nat) (v xv : Value) (l cs : List ByteArray) (hs : a.eval s = v) (hb : Ks W base v l) (hx : a.eval x = xv) (hc : Ks W b2 xv cs)
    (hbytes : l.length + cs.length ≤ 2000000) (hbase : base ≤ W.heap.size)
    (h : ∀ v' w', Ks w' base v' (l ++ cs) → W.grownBy w' v.ownBlock → wpList Tryz.prog ops Q rest (a.put o.dst v') w') : wpList Tryz.prog ops Q (o :: rest) a W := by
  rcases hc.form with ⟨rfl, rfl⟩ | ⟨g, cap, rfl, _, _, _, _⟩
  · obtain ⟨i0, hi, _⟩ := info_parts infoKey
    refine wpList_append_own_none hgd s x 31 ho base 9 i0 1 Tryz.underlying31 hi v l.length _ hs hb hx (h v W (by rw [List.append_nil]; exact hb) ⟨rfl, rfl, rfl, Nat.le_refl _, fun _ _ _ => rfl⟩)
  · refine wp_keys_push W hgd s x ho base v l hs hb ⟨g, 0, none⟩ cs.length cap cs hx rfl (fun j u hu => ?_) hbytes hbase (fun v' w' h1 h2 _ => h v' w' h1 h2)
    have := World.ownsRow.cells hc (g := g) rfl j (.string u) (by rw [List.getElem?_map, hu]; rfl)
    exact this
end Go.Proofs.YteimpebfenpifaaGreatDoor

namespace Go.Proofs.YteimpebfenpifaaGreatDoor
open Go Go.RowKit Go.ChangeShapes Go.WideShapes Go.ChangeAt

section
variable {w0 : World} {b : Nat} {G : GD} {k : Nat} {K : Nat → Prop} {w : World}
theorem lv_pass (h : LvS w0 b G k K w) (h0 : It w0) (hk : k ≤ 1000000) (o : OpD) (hp : o.path.size ≤ 100000) (hp2 : o.dst.size ≤ 100000) (hp3 : o.data.size ≤ 1000000) {q : AnsD} {G' : GD} (hq : doG G o = (q, G')) :
    Calls Tryz.prog 17 #[.pointer (some ⟨b, 0, none⟩), opV o] w fun e w' => ∃ va vc, e = .returned (ansV q.code q.n q.data (.slice va q.names.length vc)) ∧ LvS w0 b G' (k + 1) K w' ∧ Kp K w w' := by
  have hd := tk_do h.tk hk o hp hp2 hp3 h.it
  rw [hq] at hd
  refine hd.mono ?_
  rintro e w' ⟨va, vc, rfl, hks, hkp, htk⟩
  exact ⟨va, vc, rfl, ⟨htk.mono (fun j hj => .inl hj), h.bl.trans (hkp.below h.bl.size h.low), h.it.kp h0 hkp h.low, h.low⟩, hkp⟩
theorem LvS.go (h : LvS w0 b G k K w) {w' : World} (hb : Below w.heap.size w w') : LvS w0 b G k K w' := ⟨h.tk.keep hb, h.bl.trans (hb.mono h.bl.size), h.it.keep hb, h.low⟩
theorem LvS.more (h : LvS w0 b G k K w) {w' : World} (hb : Below w.heap.size w w') (N : Nat → Prop) (hN : ∀ j, N j → w.heap.size ≤ j ∧ j < w'.heap.size) : LvS w0 b G k (fun j => K j ∨ N j) w' :=
  ⟨h.tk.more hb N hN, h.bl.trans (hb.mono h.bl.size), h.it.keep hb, fun j hj => .inl (h.low j hj)⟩
end
/-- A row of strings, all of whose block is kept. -/
structure KsAt (K : Nat → Prop) (w : World) (v : Value) (l : List ByteArray) : Prop where
  ks : ∃ B, Ks w B v l
  kn : ∀ j, v.ownBlock = some j → K j
theorem KsAt.go {K K' : Nat → Prop} {w w' : World} {v : Value} {l : List ByteArray} (h : KsAt K w v l) (hk : Kp K w w') (hm : ∀ j, K j → K' j) : KsAt K' w' v l := by
  obtain ⟨B, hB⟩ := h.ks
  exact ⟨⟨B, hk.ks hB h.kn⟩, fun j hj => hm _ (h.kn j hj)⟩
theorem str_geq (x y : ByteArray) (W : World) : (binOp .geq 9 (.string x) (.string y)).run Tryz.prog W = .ok (.bool (!Op.bytesLess x.toList y.toList)) W := by kernel_rfl
theorem ge_no {x y : ByteArray} (h : x.data.toList < y.data.toList) (W : World) : (binOp .geq 9 (.string x) (.string y)).run Tryz.prog W = .ok (.bool false) W := by
  rw [str_geq, bytesLess_eq, ByteArray.toList_eq, ByteArray.toList_eq, decide_eq_true h]
  rfl
theorem join_snoc (l : List ByteArray) (c : ByteArray) : (joinD (l ++ [c])).size ≤ (joinD l).size + c.size + 1 := by
  have e : accL (l ++ [c]) = accL l ++ (47 :: pb c) := by simp [accL]
  rw [accB_join _ (by simp)]
  have h1 : (accB (l ++ [c])).size = (accL l).length + (c.size + 1) := by
    rw [← pb_size]
    unfold accB mkB
    rw [pb_mk, e, List.length_append, List.length_cons, pb_size]
  rw [h1]
  by_cases h0 : l = []
  · subst h0
    simp [accL]
  · rw [accB_join l h0]
    have h2 : (accB l).size = (accL l).length := by
      rw [← pb_size]
      unfold accB mkB
      rw [pb_mk]
    omega
theorem Ks.cellAt {w : World} {B g cap : Nat} {l : List ByteArray} (h : Ks w B (.slice (some ⟨g, 0, none⟩) l.length cap) l) {i : Nat} {c : ByteArray} (hi : l[i]? = some c) : w.cell? ⟨g, i, none⟩ = some (.string c) := by
  have h1 := World.ownsRow.cells h (g := g) rfl i (.string c) (by rw [List.getElem?_map, hi]; rfl)
  rw [add_plain, Nat.zero_add] at h1
  exact h1
theorem ns_addr {w : World} {K : Nat → Prop} {a : Nat} {q : AnsD} {va : Option Addr} {vc : Nat} (h : AnsAt K w a q va vc) (h0 : 0 < q.names.length) : ∃ g, va = some ⟨g, 0, none⟩ := by
  obtain ⟨B, hB⟩ := h.ks
  rcases hB.form with ⟨_, h2⟩ | ⟨g, cap, h1, _⟩
  · rw [h2] at h0; cases h0
  · injection h1 with e1 _ _
    exact ⟨g, e1⟩
end Go.Proofs.YteimpebfenpifaaGreatDoor
