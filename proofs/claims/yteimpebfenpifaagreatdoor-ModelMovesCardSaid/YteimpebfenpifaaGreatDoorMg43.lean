/-
  Texts put together: MoTwo, MoMw, OpenMv.
-/
import Derived.Test.YteimpebfenpifaaGreatDoorMg40
import Derived.Test.YteimpebfenpifaaGreatDoorMoMv
namespace Go.Proofs.YteimpebfenpifaaGreatDoor
open Go Go.RowKit Go.ChangeShapes Go.WideShapes Go.ChangeAt

structure LvT (w0 : World) (b : Nat) (G : GD) (k : Nat) (b2 : Nat) (G2 : GD) (k2 : Nat) (K : Nat → Prop) (w : World) : Prop where
  t2 : T2 b G k b2 G2 k2 K w
  bl : Below w0.heap.size w0 w
  it : It w
  low : ∀ j, j < w0.heap.size → K j
section
variable {w0 : World} {b : Nat} {G : GD} {k : Nat} {b2 : Nat} {G2 : GD} {k2 : Nat} {K : Nat → Prop} {w : World}
theorem LvT.swap (h : LvT w0 b G k b2 G2 k2 K w) : LvT w0 b2 G2 k2 b G k K w := ⟨h.t2.swap, h.bl, h.it, h.low⟩
theorem LvT.keep {w' : World} (h : LvT w0 b G k b2 G2 k2 K w) (hb : Below w.heap.size w w') : LvT w0 b G k b2 G2 k2 K w' := ⟨h.t2.keep hb, h.bl.trans (hb.mono h.bl.size), h.it.keep hb, h.low⟩
theorem LvT.drew (h : LvT w0 b G k b2 G2 k2 K w) : LvT w0 b G k b2 G2 k2 K w.drew := h.keep ⟨rfl, rfl, rfl, Nat.le_refl _, fun _ _ => rfl⟩
theorem LvT.alloc (h : LvT w0 b G k b2 G2 k2 K w) (o : Obj) : LvT w0 b G k b2 G2 k2 (fun j => K j ∨ j = w.heap.size) (w.alloc o) :=
  ⟨h.t2.more ((Below.refl _ _).alloc (Nat.le_refl _) _) (fun j => j = w.heap.size) (fun j hj => by rw [size_alloc]; omega), h.bl.trans (((Below.refl _ _).alloc (Nat.le_refl _) o).mono h.bl.size), h.it.keep ((Below.refl _ _).alloc (Nat.le_refl _) o), fun j hj => .inl (h.low j hj)⟩
theorem lt_copy (h : LvS w0 b G k K w) (hk : k ≤ 1000000) : Calls Tryz.prog 14 #[.pointer (some ⟨b, 0, none⟩)] w fun e w' => ∃ b2, e = .returned (.pointer (some ⟨b2, 0, none⟩)) ∧ LvT w0 b G k b2 G k K w' ∧ Below w.heap.size w w' := by
  refine (tk_copy h.tk hk).mono ?_
  rintro e w' ⟨b2, rfl, ht, hb⟩
  exact ⟨b2, rfl, ⟨ht, h.bl.trans (hb.mono h.bl.size), h.it.keep hb, h.low⟩, hb⟩
theorem lt_count (h : LvT w0 b G k b2 G2 k2 K w) (hk : k ≤ 1000000) : Calls Tryz.prog 19 #[.pointer (some ⟨b, 0, none⟩)] w fun e w' => e = .returned (.tuple #[.int .i64 (countG G).1, .int .i64 (countG G).2.1, .int .i64 (countG G).2.2]) ∧ LvT w0 b G k b2 G2 k2 K w' ∧ Below w.heap.size w w' := by
  refine (tk_count h.t2.one hk).mono ?_
  rintro e w' ⟨rfl, hb⟩
  exact ⟨rfl, h.keep hb, hb⟩
theorem lt_do (h : LvT w0 b G k b2 G2 k2 K w) (h0 : It w0) (hk : k ≤ 1000000) (o : OpD) (ho : okO o) {q : AnsD} {G' : GD} (hq : doG G o = (q, G')) :
    Calls Tryz.prog 17 #[.pointer (some ⟨b, 0, none⟩), opV o] w fun e w' => ∃ va vc, e = .returned (ansV q.code q.n q.data (.slice va q.names.length vc)) ∧
      ∃ K' : Nat → Prop, (∀ j, K j → K' j) ∧ LvT w0 b G' (k + 1) b2 G2 k2 K' w' ∧ Ks w' w.heap.size (.slice va q.names.length vc) q.names ∧ (∀ j, (Value.slice va q.names.length vc).ownBlock = some j → K' j) ∧ Kp K w w' := by
  have hd := t2_do h.t2 hk o (by have := ho.1; omega) (by have := ho.2.1; omega) (by have := ho.2.2; omega) h.it
  rw [hq] at hd
  refine hd.mono ?_
  rintro e w' ⟨va, vc, rfl, hks, hkp, htk⟩
  exact ⟨va, vc, rfl, _, fun j hj => .inl hj, ⟨htk, h.bl.trans (hkp.below h.bl.size h.low), h.it.kp h0 hkp h.low, fun j hj => .inl (h.low j hj)⟩, hks, fun j hj => .inr hj, hkp⟩
theorem LvT.bE (h : LvT w0 b G k b2 G2 k2 K w) : G.E.length ≤ k := h.t2.one.bE
end
theorem Ks.sl2 {w : World} {B : Nat} {va : Option Addr} {n vc : Nat} {l : List ByteArray} (h : Ks w B (.slice va n vc) l) : Sl w Value.string va l := by
  obtain ⟨_, _, e, hs, _⟩ := h.shape
  injection e with e1 e2 e3
  rw [e1]; exact hs
end Go.Proofs.YteimpebfenpifaaGreatDoor

namespace Go.Proofs.YteimpebfenpifaaGreatDoor
open Go Go.RowKit Go.ChangeShapes Go.WideShapes Go.ChangeAt

section
variable {w0 : World} {b : Nat} {G : GD} {k : Nat} {b2 : Nat} {G2 : GD} {k2 : Nat} {K : Nat → Prop} {w : World}
theorem lt_dos (h : LvT w0 b G k b2 G2 k2 K w) (h0 : It w0) (hk : k ≤ 1000000) (o : OpD) (hp : o.path.size ≤ 100000) (hp2 : o.dst.size ≤ 100000) (hp3 : o.data.size ≤ 1000000) {q : AnsD} {G' : GD} (hq : doG G o = (q, G')) :
    Calls Tryz.prog 17 #[.pointer (some ⟨b, 0, none⟩), opV o] w fun e w' => ∃ va vc, e = .returned (ansV q.code q.n q.data (.slice va q.names.length vc)) ∧
      ∃ K' : Nat → Prop, (∀ j, K j → K' j) ∧ LvT w0 b G' (k + 1) b2 G2 k2 K' (w'.alloc (.cells #[.int .i64 q.code, .int .i64 q.n, .string q.data, .slice va q.names.length vc] 33 (0, 0))) ∧
        AnsAt K' (w'.alloc (.cells #[.int .i64 q.code, .int .i64 q.n, .string q.data, .slice va q.names.length vc] 33 (0, 0))) w'.heap.size q va vc ∧
        Kp K w (w'.alloc (.cells #[.int .i64 q.code, .int .i64 q.n, .string q.data, .slice va q.names.length vc] 33 (0, 0))) := by
  have hd := t2_do h.t2 hk o hp hp2 hp3 h.it
  rw [hq] at hd
  refine hd.mono ?_
  rintro e w' ⟨va, vc, rfl, hks, hkp, htk⟩
  have ha := (Below.refl w'.heap.size w').alloc (Nat.le_refl _) (.cells #[.int .i64 q.code, .int .i64 q.n, .string q.data, .slice va q.names.length vc] 33 (0, 0))
  have hkp2 := hkp.trans (Kp.of (K := K) ha)
  have ht : LvT w0 b G' (k + 1) b2 G2 k2 _ w' := ⟨htk, h.bl.trans (hkp.below h.bl.size h.low), h.it.kp h0 hkp h.low, fun j hj => .inl (h.low j hj)⟩
  exact ⟨va, vc, rfl, _, fun j hj => .inl (.inl hj), ht.alloc _, ⟨Box.new w' _ _, .inr rfl, ⟨_, hks.alloc _⟩, fun j hj => .inl (.inr hj)⟩, hkp2⟩
end
/-- What may stand behind a path: nothing; or it begins with '/'. -/
theorem below_cases (t : ByteArray) : (t.size = 0 ∧ (t.toList == []) = true) ∨ ((t.toList == []) = false ∧ ∃ h : 0 < t.size, t[0] = 47 ∧ (pb t).head? = some 47) ∨ ((t.toList == []) = false ∧ ∃ h : 0 < t.size, t[0] ≠ 47) := by
  have h8 : t.toList = pb t := by rw [ByteArray.toList_eq]; rfl
  rw [h8]
  by_cases hz : t.size = 0
  · refine .inl ⟨hz, ?_⟩
    have h0 : pb t = [] := List.eq_nil_of_length_eq_zero (by rw [pb_size]; exact hz)
    rw [h0]
    rfl
  · have hl : 0 < t.size := by omega
    have hne : (pb t == []) = false := by
      have : pb t ≠ [] := fun e => hz (by rw [← pb_size, e]; rfl)
      simpa using this
    refine .inr ?_
    by_cases hc : t[0] = 47
    · refine .inl ⟨hne, hl, hc, ?_⟩
      rw [List.head?_eq_getElem?]
      unfold pb
      rw [Array.getElem?_toList, Array.getElem?_eq_getElem hl]
      exact congrArg some hc
    · exact .inr ⟨hne, hl, hc⟩
end Go.Proofs.YteimpebfenpifaaGreatDoor

namespace Go.Proofs.YteimpebfenpifaaGreatDoor
open Go.ChangeShapes Go.WideShapes Go.ChangeAt Go.RowKit

theorem cellsMops_open_moved : Tryz.prog.cellsOf 22 = 1 := by kernel_rfl
theorem cells_open_moved : Tryz.prog.cellsOf 47 = 4 := by kernel_rfl
section
variable {H : Type} {enc : TypeId × Value → H} {w : World}
set_option maxRecDepth 100000 in
theorem open_moved {base : Nat} {v : Value} {d : DataW H} {ps : List MemPlace} (hw : Value.okWide Tryz.prog w .any base 47 v) (h : DataW.Trod enc Tryz.prog w 0 (fun _ => true) true 47 v d ps) :
    ∃ ka kc, ∃ l : List OpD, ∃ y1 : ByteArray, ∃ y2 : ByteArray, ∃ y3 : ByteArray, v = .agg #[.slice ka l.length kc, .string y1, .string y2, .string y3] ∧ SlE w 6 MopK ka l ∧ l.length ≤ maxLen ∧ y1.size ≤ maxLen ∧ y2.size ≤ maxLen ∧ y3.size ≤ maxLen := by
  obtain ⟨cs, rfl, _⟩ := okWide_struct Tryz.underlying47 hw
  obtain ⟨fuel, hf⟩ := h
  obtain ⟨xs, n, _, _, hl, hlen, hfield⟩ := DataW.trod_struct Tryz.underlying47 hf
  rw [cells_open_moved] at hl
  have g0 : DataW.trod enc Tryz.prog w 0 _ _ n 22 (((Value.agg cs).cells.toList.drop 0).take (Tryz.prog.cellsOf 22)) = xs[0]? := hfield 0 _ rfl
  rw [cellsMops_open_moved] at g0
  have g1 : DataW.trod enc Tryz.prog w 0 _ _ n 9 (((Value.agg cs).cells.toList.drop 1).take (Tryz.prog.cellsOf 9)) = xs[1]? := hfield 1 _ rfl
  rw [cellsstring_open_mop] at g1
  have g2 : DataW.trod enc Tryz.prog w 0 _ _ n 9 (((Value.agg cs).cells.toList.drop 2).take (Tryz.prog.cellsOf 9)) = xs[2]? := hfield 2 _ rfl
  rw [cellsstring_open_mop] at g2
  have g3 : DataW.trod enc Tryz.prog w 0 _ _ n 9 (((Value.agg cs).cells.toList.drop 3).take (Tryz.prog.cellsOf 9)) = xs[3]? := hfield 3 _ rfl
  rw [cellsstring_open_mop] at g3
  obtain ⟨cl⟩ := cs
  have hlenN : xs.length = 4 := hlen
  match cl, hl, xs, hlenN with
  | [v0, v1, v2, v3], _, [z0, z1, z2, z3], _ =>
    obtain ⟨ka, kc, l, e0, hs, hm⟩ := open_slE (n := 6) MopK Tryz.underlying22 cells_open_mop (by decide) (fun _ _ _ h => open_mopk h) g0
    obtain ⟨t1, e1, _, q1⟩ := DataW.trod_string Tryz.underlying9 g1
    obtain ⟨t2, e2, _, q2⟩ := DataW.trod_string Tryz.underlying9 g2
    obtain ⟨t3, e3, _, q3⟩ := DataW.trod_string Tryz.underlying9 g3
    simp [Value.cells] at e0 e1 e2 e3
    exact ⟨ka, kc, l, t1, t2, t3, by rw [e0, e1, e2, e3], hs, hm, q1, q2, q3⟩
end
end Go.Proofs.YteimpebfenpifaaGreatDoor
