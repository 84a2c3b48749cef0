/-
  Texts put together: Map, StH, BlkG, StI, Most.
-/
import Derived.Test.YtphhnhldbajaoaaGreatDoorMg0
import Derived.Maps.OwnSet
import Derived.Maps.RangeWalk
import Derived.Carry
import Derived.Test.YtphhnhldbajaoaaGreatDoorMg18
import Derived.Test.YtphhnhldbajaoaaGreatDoorMg12
import Derived.Test.YtphhnhldbajaoaaGreatDoorMg17
import Derived.Test.YtphhnhldbajaoaaGreatDoorRows
import Derived.WalkKit
namespace Go.Proofs.YtphhnhldbajaoaaGreatDoor
open Go.RowKit Go.ChangeShapes Go.WideShapes Go.ChangeAt

section
variable {K V : Type} [DecidableEq K]
def findL (l : List (K × V)) (k : K) : Option V := (l.find? (fun x => decide (x.1 = k))).map (·.2)
def dropL (l : List (K × V)) (k : K) : List (K × V) := l.filter (fun x => !decide (x.1 = k))
def putL (l : List (K × V)) (k : K) (v : V) : List (K × V) := dropL l k ++ [(k, v)]
def NoDupL (l : List (K × V)) : Prop := l.Pairwise (fun x y => x.1 ≠ y.1)
theorem findL_nil (k : K) : findL ([] : List (K × V)) k = none := rfl
theorem findL_cons (x : K × V) (l : List (K × V)) (k : K) : findL (x :: l) k = if x.1 = k then some x.2 else findL l k := by
  unfold findL
  rw [List.find?_cons]
  by_cases h : x.1 = k
  · simp [h]
  · simp [h]
theorem findL_app (k : K) : ∀ (l r : List (K × V)), findL (l ++ r) k = (findL l k).or (findL r k)
  | [], r => by simp [findL_nil]
  | x :: l, r => by
    rw [List.cons_append, findL_cons, findL_cons, findL_app k l r]
    split <;> simp
theorem findL_filter (p : K → Bool) (k : K) : ∀ l : List (K × V), findL (l.filter (fun x => p x.1)) k = if p k = true then findL l k else none
  | [] => by simp [findL_nil]
  | x :: l => by
    rw [List.filter_cons]
    by_cases h : p x.1 = true
    · rw [if_pos h, findL_cons, findL_cons, findL_filter p k l]
      by_cases e : x.1 = k
      · subst e; simp [h]
      · simp [e]
    · rw [if_neg h, findL_cons, findL_filter p k l]
      by_cases e : x.1 = k
      · subst e; simp [h]
      · simp [e]
theorem dropL_same (l : List (K × V)) (k : K) : findL (dropL l k) k = none := by
  unfold dropL
  rw [findL_filter (fun y => !decide (y = k))]
  simp
theorem dropL_other {k k' : K} (hne : k' ≠ k) (l : List (K × V)) : findL (dropL l k) k' = findL l k' := by
  unfold dropL
  rw [findL_filter (fun y => !decide (y = k))]
  simp [hne]
theorem putL_same (l : List (K × V)) (k : K) (v : V) : findL (putL l k v) k = some v := by
  unfold putL
  rw [findL_app, dropL_same, findL_cons]
  simp
theorem putL_other (l : List (K × V)) {k k' : K} (hne : k' ≠ k) (v : V) : findL (putL l k v) k' = findL l k' := by
  unfold putL
  rw [findL_app, dropL_other hne, findL_cons, if_neg (Ne.symm hne)]
  simp [findL_nil]
theorem NoDupL.drop {l : List (K × V)} (h : NoDupL l) (k : K) : NoDupL (dropL l k) := List.Pairwise.filter _ h
theorem NoDupL.put {l : List (K × V)} (h : NoDupL l) (k : K) (v : V) : NoDupL (putL l k v) := by
  unfold putL NoDupL
  rw [List.pairwise_append]
  refine ⟨h.drop k, by simp, ?_⟩
  intro x hx y hy
  simp only [List.mem_singleton] at hy
  subst hy
  unfold dropL at hx
  simp only [List.mem_filter, Bool.not_eq_true', decide_eq_false_iff_not] at hx
  exact hx.2
theorem findL_none {k : K} : ∀ {l : List (K × V)}, findL l k = none ↔ ∀ x ∈ l, x.1 ≠ k
  | [] => by simp [findL_nil]
  | x :: l => by
    rw [findL_cons]
    by_cases h : x.1 = k
    · simp [h]
    · rw [if_neg h, findL_none]
      simp [h]
theorem dropL_len {k : K} : ∀ {l : List (K × V)}, NoDupL l → (dropL l k).length + (if (findL l k).isSome = true then 1 else 0) = l.length
  | [], _ => rfl
  | x :: l, hd => by
    have ih := dropL_len (k := k) (List.pairwise_cons.1 hd).2
    rw [findL_cons]
    by_cases h : x.1 = k
    · rw [if_pos h]
      have hn : findL l k = none := findL_none.2 (fun y hy => by rw [← h]; exact Ne.symm ((List.pairwise_cons.1 hd).1 y hy))
      rw [hn] at ih
      simp only [Option.isSome_none, Bool.false_eq_true, if_false, Nat.add_zero] at ih
      unfold dropL at *
      rw [List.filter_cons]
      simp only [h, decide_true, Bool.not_true, Bool.false_eq_true, if_false, Option.isSome_some, if_true, List.length_cons]
      omega
    · rw [if_neg h]
      unfold dropL at *
      rw [List.filter_cons]
      simp only [h, decide_false, Bool.not_false, if_true, List.length_cons]
      omega
theorem dropL_le (l : List (K × V)) (k : K) : (dropL l k).length ≤ l.length := List.length_filter_le _ _
theorem putL_len (l : List (K × V)) (k : K) (v : V) : (putL l k v).length ≤ l.length + 1 := by
  unfold putL
  have := dropL_le l k
  simp
  exact this
end

/-- A kind of map: its type, its key's and its element's; how keys and elements are told. -/
structure MapSp (P : Program) (K V : Type) where
  t : TypeId
  kt : TypeId
  et : TypeId
  und : P.underlying t = some (.map kt et)
  keyed : Maps.Keyed P kt
  kv : K → Value
  kl : K → Lit
  okK : K → Prop
  keyOf : ∀ k, okK k → keyOf P kt (kv k) = some (kl k)
  keyInv : ∀ v l, Go.keyOf P kt v = some l → ∃ k, v = kv k ∧ l = kl k ∧ okK k
  klInj : ∀ k k', kl k = kl k' → k = k'
  kvInj : ∀ k k', kv k = kv k' → k = k'
  vv : V → Value
  dv : V → DataW Unit
  rd : Value → Option (DataW Unit × List MemPlace)
  rdMk : ∀ x, rd (vv x) = some (dv x, [])
  rdInv : ∀ v y, rd v = some y → ∃ x, v = vv x ∧ y = (dv x, [])
  dvInj : ∀ x y, dv x = dv y → x = y
  vvInj : ∀ x y, vv x = vv y → x = y
  z : V
  zero : ∀ w, (zeroValue et).run P w = .ok (vv z) w

section
variable {P : Program} {K V : Type} [DecidableEq K] (S : MapSp P K V)
omit [DecidableEq K] in
theorem MapSp.kl_ne {k k' : K} (h : k ≠ k') : S.kl k ≠ S.kl k' := fun e => h (S.klInj _ _ e)
omit [DecidableEq K] in
theorem MapSp.isKl {k : K} (h : S.okK k) : WideAt.IsKeyLit (S.kl k) := S.keyed.key (S.keyOf k h)

/-- What a map reads as, and the entries. -/
structure MapIs (D : DataW Unit) (l : List (K × V)) : Prop where
  has : ∀ k, Maps.has D (S.kl k) = (findL l k).isSome
  at_ : ∀ k m, findL l k = some m → ∀ z, D.atKey (S.kl k) z = S.dv m
  size : Maps.size D = l.length
  nodup : NoDupL l
theorem MapIs.nil : MapIs S (.map []) ([] : List (K × V)) := ⟨fun _ => rfl, fun _ _ h => (by cases h), rfl, List.Pairwise.nil⟩
variable {S}
theorem MapIs.atz {D : DataW Unit} {l : List (K × V)} (h : MapIs S D l) (k : K) (z : DataW Unit) : D.atKey (S.kl k) z = match findL l k with | none => z | some m => S.dv m := by
  cases e : findL l k with
  | none => exact Maps.atKey_of_not_has (by rw [h.has, e]; rfl) z
  | some m => exact h.at_ k m e z
theorem MapIs.put {D : DataW Unit} {l : List (K × V)} (h : MapIs S D l) (hT : Maps.Tidy D) {k : K} (hk : S.okK k) (v : V) : MapIs S (D.put (S.kl k) (S.dv v)) (putL l k v) where
  has k' := by
    by_cases e : k' = k
    · subst e
      rw [Maps.has_put_same hT.isMap (S.isKl hk), putL_same]
      rfl
    · rw [Maps.has_put_other (S.kl_ne e), putL_other l e, h.has]
  at_ k' m hm z := by
    by_cases e : k' = k
    · subst e
      rw [putL_same] at hm
      cases hm
      exact Maps.atKey_put_same hT.isMap (S.isKl hk) _ _
    · rw [putL_other l e] at hm
      rw [Maps.atKey_put_other (S.kl_ne e)]
      exact h.at_ k' m hm z
  size := by
    rw [Maps.size_put hT, h.has, h.size]
    have := dropL_len (k := k) h.nodup
    unfold putL
    rw [List.length_append, List.length_singleton]
    split <;> simp_all
  nodup := h.nodup.put k v
theorem MapIs.del {D : DataW Unit} {l : List (K × V)} (h : MapIs S D l) (hT : Maps.Tidy D) (k : K) : MapIs S (D.del (S.kl k)) (dropL l k) where
  has k' := by
    by_cases e : k' = k
    · subst e
      rw [Maps.has_del_same, dropL_same]
      rfl
    · rw [Maps.has_del_other (S.kl_ne e), dropL_other e, h.has]
  at_ k' m hm z := by
    by_cases e : k' = k
    · subst e
      rw [dropL_same] at hm
      cases hm
    · rw [dropL_other e] at hm
      rw [Maps.atKey_del_other (S.kl_ne e)]
      exact h.at_ k' m hm z
  size := by
    have h1 := Maps.size_del (k := S.kl k) hT
    rw [h.has, h.size] at h1
    have := dropL_len (k := k) h.nodup
    omega
  nodup := h.nodup.drop k

theorem owns_tight {w : World} {kt : TypeId} {R : Value → Option (DataW Unit × List MemPlace)} {b n : Nat} {D : DataW Unit} (h : w.ownsMap P kt R b n D) : w.ownsMap P kt R b (Maps.size D) D := by
  obtain ⟨es, clock, hb, F, hs, rfl⟩ := h
  refine ⟨es, clock, hb, F, ?_, rfl⟩
  rw [Maps.size_eq, length_sorted]
  simp
variable (S)
/-- Block m is the map of the entries l. -/
def MapAt (w : World) (m : Nat) (l : List (K × V)) : Prop := ∃ D, w.ownsMap P S.kt S.rd m l.length D ∧ MapIs S D l
variable {S}
theorem MapAt.lt {w : World} {m : Nat} {l : List (K × V)} (h : MapAt S w m l) : m < w.heap.size := by obtain ⟨_, h, _⟩ := h; exact h.lt
theorem MapAt.of {w w' : World} {m : Nat} {l : List (K × V)} (h : MapAt S w m l) (hc : w'.heap[m]? = w.heap[m]?) : MapAt S w' m l := by
  obtain ⟨D, ⟨es, clock, hb, F, hs, hD⟩, hM⟩ := h
  exact ⟨D, ⟨es, clock, hc.trans hb, F, hs, hD⟩, hM⟩
theorem MapAt.chg {G : List Nat} {w w' : World} {m : Nat} {l : List (K × V)} (h : MapAt S w m l) (hc : Chg G w w') (hn : m ∉ G) : MapAt S w' m l := h.of (hc.block m h.lt hn)
theorem MapAt.keep {w w' : World} {m : Nat} {l : List (K × V)} (h : MapAt S w m l) (hb : Below w.heap.size w w') : MapAt S w' m l := h.of (hb.block m h.lt)
theorem MapAt.made (S : MapSp P K V) (w : World) : MapAt S (w.alloc (.map #[] 0)) w.heap.size [] := ⟨_, World.ownsMap_made w P S.kt S.rd, MapIs.nil S⟩
theorem MapAt.look_ok {w : World} {m : Nat} {l : List (K × V)} (h : MapAt S w m l) {k : K} (hk : S.okK k) : (Instr.lookup S.t (.map (some m)) (S.kv k) true).run P w = .ok (.tuple #[S.vv ((findL l k).getD S.z), .bool (findL l k).isSome]) w := by
  obtain ⟨D, hown, hM⟩ := h
  obtain ⟨v, ps, hrun, hv⟩ := hown.look_ok S.keyed S.und (S.zero w) (S.rdMk _) (S.keyOf k hk)
  obtain ⟨y, rfl, hy⟩ := S.rdInv _ _ hv
  rw [hM.atz] at hy
  rw [hM.has k] at hrun
  rw [hrun]
  have h2 := congrArg Prod.fst hy
  cases e : findL l k with
  | none => rw [e] at h2; rw [← S.dvInj _ _ h2]; rfl
  | some x => rw [e] at h2; rw [← S.dvInj _ _ h2]; rfl
theorem MapAt.del {w w' : World} {m : Nat} {l : List (K × V)} {D : DataW Unit} {k : K} {n : Nat} (hM : MapIs S D l) (ho : w.ownsMap P S.kt S.rd m n D) (h : w'.ownsMap P S.kt S.rd m l.length (D.del (S.kl k))) : MapAt S w' m (dropL l k) := by
  have h2 := hM.del (ho.tidy S.keyed) k
  refine ⟨_, ?_, h2⟩
  have h3 := owns_tight h
  rw [h2.size] at h3
  exact h3
theorem MapAt.put {w w' : World} {m : Nat} {l : List (K × V)} {D : DataW Unit} {k : K} {n : Nat} {v : V} (hM : MapIs S D l) (ho : w.ownsMap P S.kt S.rd m n D) (hk : S.okK k) (h : w'.ownsMap P S.kt S.rd m (l.length + 1) (D.put (S.kl k) (S.dv v))) : MapAt S w' m (putL l k v) := by
  have h2 := hM.put (ho.tidy S.keyed) hk v
  refine ⟨_, ?_, h2⟩
  have h3 := owns_tight h
  rw [h2.size] at h3
  exact h3

section
variable {w : World} {ops : Array Oper} {rest : List Oper} {o : Oper} {a : Act} {Q : Exit → Act → World → Prop}
/-- 'delete(m, k)': (at_delete; refine map_delete rfl _ _ _ _ rfl h rfl hk ?_; intro w1 h1 hc1). -/
theorem map_delete (hg : o.guard = none) (x y : Operand) (t kt : TypeId) (hop : o.op = Op.call { callee := Callee.builtin Builtin.delete, args := #[x, y], argTypes := #[t, kt] }) (ht : t = S.t) (hkt : kt = S.kt)
    {m : Nat} {l : List (K × V)} (hm : a.eval x = .map (some m)) (h : MapAt S w m l) {k : K} (hx : a.eval y = S.kv k) (hk : S.okK k)
    (hK : ∀ w', MapAt S w' m (dropL l k) → Chg [m] w w' → wpList P ops Q rest (a.put o.dst (.tuple #[])) w') :
    wpList P ops Q (o :: rest) a w := by
  subst ht hkt
  obtain ⟨D, hown, hM⟩ := h
  exact wpList_delete_own w hg x y S.t S.kt hop S.et S.keyed S.und S.rd m l.length D hm hown (S.kv k) (S.kl k) hx (S.keyOf k hk) (fun w' h1 h2 => hK w' (MapAt.del hM hown h1) (Chg.only h2.grown))
/-- 'm[k] = v'. -/
theorem map_store (hg : o.guard = none) (x y u : Operand) (t : TypeId) (hop : o.op = Op.mapUpdate t x y u) (ht : t = S.t)
    {m : Nat} {l : List (K × V)} (hm : a.eval x = .map (some m)) (h : MapAt S w m l) (hn : l.length < maxLen) {k : K} {v : V} (hx : a.eval y = S.kv k) (hu : a.eval u = S.vv v) (hk : S.okK k)
    (hK : ∀ w', MapAt S w' m (putL l k v) → Chg [m] w w' → wpList P ops Q rest (a.put o.dst undef) w') :
    wpList P ops Q (o :: rest) a w := by
  subst ht
  obtain ⟨D, hown, hM⟩ := h
  exact wpList_mapUpdate_own w hg x y u S.t hop S.kt S.et S.keyed S.und S.rd m l.length D hm hown hn (S.kv k) (S.vv v) (S.kl k) hx hu (S.keyOf k hk) (S.dv v) [] (S.rdMk v) (fun w' h1 h2 => hK w' (MapAt.put hM hown hk h1) (Chg.only h2))
end

variable (S)
variable {S}
section
variable {w : World} {ops : Array Oper} {rest : List Oper} {o : Oper} {a : Act} {Q : Exit → Act → World → Prop}
end
end
end Go.Proofs.YtphhnhldbajaoaaGreatDoor

namespace Go.Proofs.YtphhnhldbajaoaaGreatDoor
open Go Go.RowKit Go.ChangeShapes Go.WideShapes Go.ChangeAt

def rdBl (v : Value) : Option (DataW Unit × List MemPlace) := match v with
  | .agg cs => (match cs.toList with | [.string t] => some (.agg [.lit (.string t.data.toList)], []) | _ => none)
  | _ => none
theorem zeroBl (w : World) : (zeroValue 134).run Tryz.prog w = .ok (.agg #[.string ⟨#[]⟩]) w := by kernel_rfl
/-- Texts by refs. -/
def BlS : MapSp Tryz.prog ByteArray ByteArray where
  t := 89
  kt := 9
  et := 134
  und := Tryz.underlying89
  keyed := Maps.string_keyed Tryz.underlying9
  kv := .string
  kl k := .string k.data.toList
  okK k := k.size ≤ maxLen
  keyOf k h := WideMaps.keyOf_string_mk Tryz.underlying9 h
  keyInv v l h := by
    have hk := Tryz.underlying9
    cases v <;> simp [Go.keyOf, hk, mapKey] at h
    rename_i k
    obtain ⟨h1, rfl⟩ := h
    exact ⟨k, rfl, rfl, h1⟩
  klInj k k' h := by
    injection h with h
    have h2 : k.data = k'.data := Array.toList_inj.1 h
    cases k; cases k'; simp_all
  kvInj k k' h := by injection h
  vv t := .agg #[.string t]
  dv t := .agg [.lit (.string t.data.toList)]
  rd := rdBl
  rdMk x := rfl
  rdInv v y h := by
    unfold rdBl at h
    split at h
    · rename_i cs
      split at h
      · rename_i t ht
        cases h
        refine ⟨t, ?_, rfl⟩
        have h9 : cs = #[.string t] := Array.toList_inj.1 ht
        rw [h9]
      · cases h
    · cases h
  dvInj x y h := by
    injection h with h
    injection h with h _
    injection h with h
    injection h with h
    have h2 : x.data = y.data := Array.toList_inj.1 h
    cases x; cases y; simp_all
  vvInj x y h := by
    injection h with h
    have h3 := congrArg (fun a => a.toList) h
    simp at h3
    exact h3
  z := ⟨#[]⟩
  zero := zeroBl
def recB (L : List (ByteArray × ByteArray)) (ref : ByteArray) : ByteArray := (findL L ref).getD ⟨#[]⟩
section
variable {s : Nat} {x : StoV} {w : World}
set_option maxRecDepth 100000 in
set_option maxHeartbeats 4000000 in
theorem srecall_any (h : StoB w s x) (L : List (ByteArray × ByteArray)) (hm : MapAt BlS w x.m L) (ref : ByteArray) (hr : ref.size ≤ maxLen) (pa : Option Addr) (pc : Nat) (p : PtrD) :
    Calls Tryz.prog 84 #[.pointer (some ⟨s, 0, none⟩), .string ref, ptrV pa pc p] w fun e w' => e = .returned (.tuple #[.string (recB L ref), .bool (findL L ref).isSome]) ∧ Below w.heap.size w w' := by
  have HX : Hid (∀ W, Below w.heap.size w W → W.cell? ⟨s, 10, none⟩ = some (.map (some x.m))) := fun W hb => (h.keep hb h.lt).cell 10 _ rfl
  have HM : Hid (∀ W, Below w.heap.size w W → (Instr.lookup 89 (.map (some x.m)) (.string ref) true).run Tryz.prog W = .ok (.tuple #[.agg #[.string (recB L ref)], .bool (findL L ref).isSome]) W) := fun W hb => MapAt.look_ok (S := BlS) (hm.keep hb) hr
  clear h hm
  obtain ⟨T, hT⟩ : ∃ T, T = recB L ref := ⟨_, rfl⟩
  obtain ⟨K, hK⟩ : ∃ K, K = (findL L ref).isSome := ⟨_, rfl⟩
  rw [← hT, ← hK] at HM ⊢
  clear hT hK
  unfold ptrV
  obtain ⟨wa, hwa⟩ : ∃ wa, wa = w.alloc (.cells #[.slice pa p.locs.length pc, .int .i64 p.len, .int .i64 p.birth, .string p.sum] 37 (0, 0)) := ⟨_, rfl⟩
  have HB : Hid (Below w.heap.size w wa) := by show Below _ _ _; rw [hwa]; exact (Below.refl _ _).alloc (Nat.le_refl _) _
  have c5 := HX.out wa HB.out
  have hlk := HM.out wa HB.out
  have hwa2 := hwa.symm
  clear hwa
  go_enter Tryz.func84, Tryz.ntmps84
  go_wp2_with fail
  go_ret2
  exact ⟨rfl, HB.out.alloc HB.out.size _⟩
end
end Go.Proofs.YtphhnhldbajaoaaGreatDoor

namespace Go.Proofs.YtphhnhldbajaoaaGreatDoor
open Go Go.RowKit

theorem bread_any (x a : Option Addr) (cap : Nat) (p : PtrD) (t : Told) (w : World) (hl : p.locs.length ≤ 1000) (hs : SlP w a p.locs) (hK : Kt w) (hT : ∀ k, (t.T k).size ≤ 140737488355328) (hR : Rd x p t w) :
    Calls Tryz.prog 115 #[.pointer x, ptrV a cap p] w fun e w' => e = .returned (.tuple #[.string (readR t p).1, .int .i64 ((readR t p).2.1 : Nat), .int .i64 (readR t p).2.2]) ∧ Below w.heap.size w w' :=
  callsIn_wide.1 (bread_in x a cap p t w hl hs hK hT hR)
/-- What devices tell of p's places. -/
def toldD (d : DevD) (p : PtrD) : Told := ⟨fun k => tellD d (p.locs.getD k (0, 0)), fun k => chkD d (p.locs.getD k (0, 0)) 0⟩
theorem getD_at {l : List (Int × Int)} {k : Nat} (h : k < l.length) : l.getD k (0, 0) = l[k] := by simp [List.getD, List.getElem?_eq_getElem h]
theorem one_rd {B : Nat} {P : List Nat → World → Prop} (hP : Fixed P) {b : Nat} {d : DevD} {w : World} (h : One B P b d w) (p : PtrD) : Rd (some ⟨b, 0, none⟩) p (toldD d p) w := fun W hW k hk => by
  refine (one_readS hP (h.keep hP hW) p.locs[k]).mono ?_
  rintro e W' ⟨rfl, _, hb⟩
  refine ⟨?_, hb⟩
  show _ = Ending.returned (.tuple #[.string (tellD d (p.locs.getD k (0, 0))), .int .i64 (chkD d (p.locs.getD k (0, 0)) 0)])
  rw [getD_at hk]
/-- Objects of the call's own. -/
def ObjP (L : List (Nat × Obj)) (G : List Nat) (W : World) : Prop := G = L.map Prod.fst ∧ ∀ x ∈ L, W.heap[x.1]? = some x.2
theorem fixed_obj (L : List (Nat × Obj)) : Fixed (ObjP L) := by
  refine ⟨?_, ?_⟩
  · rintro G S w1 w2 ⟨rfl, h⟩ hc hn
    exact ⟨rfl, fun x hx => (hc.block x.1 (Array.getElem?_eq_some_iff.1 (h x hx)).1 (hn _ (List.mem_map_of_mem hx))).trans (h x hx)⟩
  · rintro G w ⟨rfl, h⟩ k hk
    obtain ⟨x, hx, rfl⟩ := List.mem_map.1 hk
    exact (Array.getElem?_eq_some_iff.1 (h x hx)).1
theorem One.obj {B : Nat} {P : List Nat → World → Prop} {b : Nat} {d : DevD} {w : World} {L : List (Nat × Obj)} (h : One B (Both P (ObjP L)) b d w) (x : Nat × Obj) (hx : x ∈ L) : w.heap[x.1]? = some x.2 := by
  obtain ⟨_, _, _, _, ⟨_, _, _, _, hl, _⟩, _⟩ := h
  exact hl.2 x hx
/-- One of the own objects is changed. -/
theorem One.touch {B : Nat} {P : List Nat → World → Prop} {b : Nat} {d : DevD} {w w' : World} {L L' : List (Nat × Obj)} (hP : Fixed P) (h : One B (Both P (ObjP L)) b d w) (g : Nat) (hg : g ∈ L.map Prod.fst) (hc : Chg [g] w w') (hk : L'.map Prod.fst = L.map Prod.fst) (ho : ∀ x ∈ L', w'.heap[x.1]? = some x.2) : One B (Both P (ObjP L')) b d w' := by
  obtain ⟨hz, F, G, h1, ⟨G1, G2, rfl, h2, ⟨rfl, h3⟩, h4⟩, h5, h6⟩ := h
  refine ⟨Nat.le_trans hz hc.size, F, _, (fixed_dev b d).keep _ _ _ _ h1 hc (fun k hk hm => ?_), ⟨G1, _, rfl, hP.keep _ _ _ _ h2 hc (fun k hk hm => ?_), ⟨hk.symm, ho⟩, h4⟩, h5, h6⟩
  · rw [List.mem_singleton] at hm
    subst hm
    exact (h5 _ hk).2 (List.mem_append_right _ hg)
  · rw [List.mem_singleton] at hm
    subst hm
    exact h4 _ hk hg

end Go.Proofs.YtphhnhldbajaoaaGreatDoor

namespace Go.Proofs.YtphhnhldbajaoaaGreatDoor
open Go Go.RowKit Go.ChangeShapes Go.WideShapes Go.ChangeAt

section
variable {s : Nat} {x : StoV} {w : World}
set_option maxRecDepth 100000 in
set_option maxHeartbeats 4000000 in
theorem sread_any (h : StoB w s x) (ref : ByteArray) (pa : Option Addr) (pc : Nat) (p : PtrD) (t : Told) (hl : p.locs.length ≤ 1000) (hs : SlP w pa p.locs) (hK : ∀ W, Below w.heap.size w W → Kt W) (hT : ∀ k, (t.T k).size ≤ 140737488355328) (hR : ∀ W, Below w.heap.size w W → Rd (some ⟨x.db, 0, none⟩) p t W) :
    Calls Tryz.prog 86 #[.pointer (some ⟨s, 0, none⟩), .string ref, ptrV pa pc p] w fun e w' => e = .returned (.tuple #[.string (readR t p).1, .bool ((readR t p).2.2 == 0)]) ∧ Below w.heap.size w w' := by
  obtain ⟨gb, hgb⟩ : ∃ gb, gb = w.heap.size := ⟨_, rfl⟩
  obtain ⟨wa, hwa⟩ : ∃ wa, wa = w.alloc (.cells #[.slice pa p.locs.length pc, .int .i64 p.len, .int .i64 p.birth, .string p.sum] 37 (0, 0)) := ⟨_, rfl⟩
  have hba : Below w.heap.size w wa := by rw [hwa]; exact (Below.refl _ _).alloc (Nat.le_refl _) _
  have HBX : Hid (Box wa gb 37 #[.slice pa p.locs.length pc, .int .i64 p.len, .int .i64 p.birth, .string p.sum]) := by show Box _ _ _ _; rw [hwa, hgb]; exact Box.new _ _ _
  have HD : Hid (Below w.heap.size w wa.drew) := hba.drew
  have e0 : wa.drew.cell? ⟨gb, 0, none⟩ = some (.slice pa p.locs.length pc) := HBX.out.cell 0 _ rfl
  have e1 : wa.drew.cell? ⟨gb, 1, none⟩ = some (.int .i64 p.len) := HBX.out.cell 1 _ rfl
  have e2 : wa.drew.cell? ⟨gb, 2, none⟩ = some (.int .i64 p.birth) := HBX.out.cell 2 _ rfl
  have e3 : wa.drew.cell? ⟨gb, 3, none⟩ = some (.string p.sum) := HBX.out.cell 3 _ rfl
  have e4 : wa.drew.cell? ⟨s, 0, none⟩ = some (.pointer (some ⟨x.db, 0, none⟩)) := (h.keep hba h.lt).cell 0 _ rfl
  have HSL : Hid (s < wa.drew.heap.size) := (h.keep hba h.lt).lt
  have HRD := Lib.hid (bread_any (some ⟨x.db, 0, none⟩) pa pc p t _ hl (hs.keep HD.out) (hK _ HD.out) hT (hR _ HD.out))
  unfold ptrV at HRD ⊢
  obtain ⟨q, hq⟩ : ∃ q, q = readR t p := ⟨_, rfl⟩
  rw [← hq] at HRD ⊢
  obtain ⟨q1, q2, q3⟩ := q
  have hwa2 := hwa.symm
  have hgb2 := hgb.symm
  clear hwa hgb h hs hK hT hR hba hq
  go_enter Tryz.func86, Tryz.ntmps86
  go_wp2_with fail
  refine wp_region_tree (fun W => W.cell? ⟨gb, 0, none⟩ = some (.slice pa p.locs.length pc) ∧ W.cell? ⟨gb, 1, none⟩ = some (.int .i64 p.len) ∧ W.cell? ⟨gb, 2, none⟩ = some (.int .i64 p.birth) ∧ W.cell? ⟨gb, 3, none⟩ = some (.string p.sum) ∧ W.cell? ⟨s, 0, none⟩ = some (.pointer (some ⟨x.db, 0, none⟩))) 12 (.quiet 0 (.quiet 1 (.quiet 2 (.quiet 3 (.quiet 4 (.make 5 (.quiet 6 (.quiet 7 (.quiet 8 (.quiet 9 (.quiet 10 (.quiet 11 .nil)))))))))))) (by kernel_rfl) (by kernel_rfl) ⟨e0, e1, e2, e3, e4⟩ ?_
  simp only [List.drop_succ_cons, List.drop_zero]
  iterate 5 (apply wpTr_step rfl; (intro W hS K hK; obtain ⟨y0, y1, y2, y3, y4⟩ := hS; go_simp; exact hK _ rfl))
  refine wpTr_make rfl (fun K' hK => ?_)
  go_simp
  refine HRD.out.mono ?_
  rintro e w2 ⟨rfl, hb2⟩
  have hc := fun (g j : Nat) (hg : g < wa.drew.heap.size) => hb2.cell (p := ⟨g, j, none⟩) hg
  have hg9 : gb < wa.drew.heap.size := HBX.out.lt
  have hs9 : s < wa.drew.heap.size := HSL.out
  refine hK _ _ _ (fun _ h => h) ⟨(hc _ _ hg9).trans e0, (hc _ _ hg9).trans e1, (hc _ _ hg9).trans e2, (hc _ _ hg9).trans e3, (hc _ _ hs9).trans e4⟩ ?_
  clear hK K'
  have HB2 := Lib.hid (HD.out.trans (hb2.mono HD.out.size))
  clear hb2 hc hg9 hs9 e0 e1 e2 e3 e4
  iterate 6 (apply wpTr_step rfl; (intro W hS K hK; go_simp; exact hK _ rfl))
  refine wpTr_nil ?_
  go_wp2
  go_ret2
  exact ⟨rfl, HB2.out⟩
end
end Go.Proofs.YtphhnhldbajaoaaGreatDoor

namespace Go.Proofs.YtphhnhldbajaoaaGreatDoor
open Go.RowKit

/-- The greatest number of a width. -/
def mostI (n : Int) : Int := if 1 ≤ n ∧ n ≤ 7 then 256 ^ n.toNat - 1 else -1

theorem p256 (j : Nat) (h : j ≤ 6) : 1 ≤ (256 : Int) ^ j ∧ (256 : Int) ^ j ≤ 281474976710656 := by
  match j, h with
  | 0, _ => decide
  | 1, _ => decide
  | 2, _ => decide
  | 3, _ => decide
  | 4, _ => decide
  | 5, _ => decide
  | 6, _ => decide
theorem p256' (j : Nat) (h : j ≤ 7) : 1 ≤ (256 : Int) ^ j ∧ (256 : Int) ^ j ≤ 72057594037927936 := by
  match j, h with
  | 0, _ => decide
  | 1, _ => decide
  | 2, _ => decide
  | 3, _ => decide
  | 4, _ => decide
  | 5, _ => decide
  | 6, _ => decide
  | 7, _ => decide

theorem most_any (n : Int) (w : World) : Calls Tryz.prog 110 #[.int .i64 n] w fun e w' => e = .returned (.int .i64 (mostI n)) ∧ w = w' := by
  by_cases h : 1 ≤ n ∧ n ≤ 7
  · have h7 : n = 1 ∨ n = 2 ∨ n = 3 ∨ n = 4 ∨ n = 5 ∨ n = 6 ∨ n = 7 := by omega
    rcases h7 with rfl | rfl | rfl | rfl | rfl | rfl | rfl
    all_goals
      go_enter Tryz.func110, Tryz.ntmps110
      go_wp2
      go_ret
      exact ⟨ret_int (by decide), rfl⟩
  · have e1 : mostI n = -1 := by unfold mostI; rw [if_neg h]
    rw [e1]
    clear e1
    by_cases h1 : n < 1
    · go_enter Tryz.func110, Tryz.ntmps110
      go_wp2
      go_ret
      exact ⟨rfl, rfl⟩
    · have h2 : 7 < n := by omega
      go_enter Tryz.func110, Tryz.ntmps110
      go_wp2
      go_ret
      exact ⟨rfl, rfl⟩

end Go.Proofs.YtphhnhldbajaoaaGreatDoor
