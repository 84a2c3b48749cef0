/-
  Maps of any kind, told by lists: find, drop, put; a map's block; a range over it. No program here.
-/
import Derived.Test.YtbeldjijnjgbfaaMg10
import Derived.Maps.OwnSet
import Derived.Maps.RangeWalk
import Derived.Carry
namespace Go.Proofs.Ytbeldjijnjgbfaa
open Go.RowKit Go.ChangeShapes Go.WideShapes Go.ChangeAt

section
variable {K V : Type} [DecidableEq K]
def findL (l : List (K × V)) (k : K) : Option V := (l.find? (fun x => decide (x.1 = k))).map (·.2)
def dropL (l : List (K × V)) (k : K) : List (K × V) := l.filter (fun x => !decide (x.1 = k))
def putL (l : List (K × V)) (k : K) (v : V) : List (K × V) := dropL l k ++ [(k, v)]
def NoDupL (l : List (K × V)) : Prop := l.Pairwise (fun x y => x.1 ≠ y.1)
theorem findL_nil (k : K) : findL ([] : List (K × V)) k = none := rfl
theorem findL_cons (x : K × V) (l : List (K × V)) (k : K) : findL (x :: l) k = if x.1 = k then some x.2 else findL l k := by
  unfold findL
  rw [List.find?_cons]
  by_cases h : x.1 = k
  · simp [h]
  · simp [h]
theorem findL_app (k : K) : ∀ (l r : List (K × V)), findL (l ++ r) k = (findL l k).or (findL r k)
  | [], r => by simp [findL_nil]
  | x :: l, r => by
    rw [List.cons_append, findL_cons, findL_cons, findL_app k l r]
    split <;> simp
theorem findL_filter (p : K → Bool) (k : K) : ∀ l : List (K × V), findL (l.filter (fun x => p x.1)) k = if p k = true then findL l k else none
  | [] => by simp [findL_nil]
  | x :: l => by
    rw [List.filter_cons]
    by_cases h : p x.1 = true
    · rw [if_pos h, findL_cons, findL_cons, findL_filter p k l]
      by_cases e : x.1 = k
      · subst e; simp [h]
      · simp [e]
    · rw [if_neg h, findL_cons, findL_filter p k l]
      by_cases e : x.1 = k
      · subst e; simp [h]
      · simp [e]
theorem dropL_same (l : List (K × V)) (k : K) : findL (dropL l k) k = none := by
  unfold dropL
  rw [findL_filter (fun y => !decide (y = k))]
  simp
theorem dropL_other {k k' : K} (hne : k' ≠ k) (l : List (K × V)) : findL (dropL l k) k' = findL l k' := by
  unfold dropL
  rw [findL_filter (fun y => !decide (y = k))]
  simp [hne]
theorem putL_same (l : List (K × V)) (k : K) (v : V) : findL (putL l k v) k = some v := by
  unfold putL
  rw [findL_app, dropL_same, findL_cons]
  simp
theorem putL_other (l : List (K × V)) {k k' : K} (hne : k' ≠ k) (v : V) : findL (putL l k v) k' = findL l k' := by
  unfold putL
  rw [findL_app, dropL_other hne, findL_cons, if_neg (Ne.symm hne)]
  simp [findL_nil]
theorem NoDupL.drop {l : List (K × V)} (h : NoDupL l) (k : K) : NoDupL (dropL l k) := List.Pairwise.filter _ h
theorem NoDupL.put {l : List (K × V)} (h : NoDupL l) (k : K) (v : V) : NoDupL (putL l k v) := by
  unfold putL NoDupL
  rw [List.pairwise_append]
  refine ⟨h.drop k, by simp, ?_⟩
  intro x hx y hy
  simp only [List.mem_singleton] at hy
  subst hy
  unfold dropL at hx
  simp only [List.mem_filter, Bool.not_eq_true', decide_eq_false_iff_not] at hx
  exact hx.2
theorem findL_none {k : K} : ∀ {l : List (K × V)}, findL l k = none ↔ ∀ x ∈ l, x.1 ≠ k
  | [] => by simp [findL_nil]
  | x :: l => by
    rw [findL_cons]
    by_cases h : x.1 = k
    · simp [h]
    · rw [if_neg h, findL_none]
      simp [h]
theorem findL_mem {k : K} {m : V} : ∀ {l : List (K × V)}, findL l k = some m → (k, m) ∈ l
  | [], h => by cases h
  | x :: l, h => by
    rw [findL_cons] at h
    by_cases e : x.1 = k
    · rw [if_pos e] at h
      cases h
      rw [← e]
      exact List.mem_cons_self
    · rw [if_neg e] at h
      exact List.mem_cons_of_mem _ (findL_mem h)
theorem findL_of_mem {x : K × V} : ∀ {l : List (K × V)}, NoDupL l → x ∈ l → findL l x.1 = some x.2
  | [], _, h => by cases h
  | y :: l, hd, h => by
    rw [findL_cons]
    rcases List.mem_cons.1 h with rfl | h2
    · rw [if_pos rfl]
    · rw [if_neg ((List.pairwise_cons.1 hd).1 _ h2)]
      exact findL_of_mem (List.pairwise_cons.1 hd).2 h2
theorem findL_iff {l : List (K × V)} (hd : NoDupL l) {k : K} {v : V} : findL l k = some v ↔ (k, v) ∈ l := ⟨findL_mem, fun h => findL_of_mem hd h⟩
theorem dropL_len {k : K} : ∀ {l : List (K × V)}, NoDupL l → (dropL l k).length + (if (findL l k).isSome = true then 1 else 0) = l.length
  | [], _ => rfl
  | x :: l, hd => by
    have ih := dropL_len (k := k) (List.pairwise_cons.1 hd).2
    rw [findL_cons]
    by_cases h : x.1 = k
    · rw [if_pos h]
      have hn : findL l k = none := findL_none.2 (fun y hy => by rw [← h]; exact Ne.symm ((List.pairwise_cons.1 hd).1 y hy))
      rw [hn] at ih
      simp only [Option.isSome_none, Bool.false_eq_true, if_false, Nat.add_zero] at ih
      unfold dropL at *
      rw [List.filter_cons]
      simp only [h, decide_true, Bool.not_true, Bool.false_eq_true, if_false, Option.isSome_some, if_true, List.length_cons]
      omega
    · rw [if_neg h]
      unfold dropL at *
      rw [List.filter_cons]
      simp only [h, decide_false, Bool.not_false, if_true, List.length_cons]
      omega
theorem dropL_le (l : List (K × V)) (k : K) : (dropL l k).length ≤ l.length := List.length_filter_le _ _
theorem putL_len (l : List (K × V)) (k : K) (v : V) : (putL l k v).length ≤ l.length + 1 := by
  unfold putL
  have := dropL_le l k
  simp
  exact this
theorem putL_new {l : List (K × V)} {k : K} (h : findL l k = none) (v : V) : putL l k v = l ++ [(k, v)] := by
  unfold putL dropL
  rw [List.filter_eq_self.2 (fun x hx => by simpa using findL_none.1 h x hx)]
omit [DecidableEq K] in
theorem NoDupL.perm {l l' : List (K × V)} (h : l.Perm l') (hd : NoDupL l) : NoDupL l' := by
  unfold NoDupL
  exact h.pairwise hd (fun {x y} hxy => Ne.symm hxy)
theorem findL_perm {l l' : List (K × V)} (h : l.Perm l') (hd : NoDupL l) (k : K) : findL l k = findL l' k := by
  have hd' := hd.perm h
  cases e : findL l k with
  | some v => exact (((findL_iff hd').2 (h.subset ((findL_iff hd).1 e)))).symm
  | none =>
    symm
    rw [findL_none] at e ⊢
    exact fun x hx => e x (h.symm.subset hx)
end

theorem findL_map {K V W : Type} [DecidableEq K] (f : K → V → W) (k : K) : ∀ l : List (K × V), findL (l.map (fun x => (x.1, f x.1 x.2))) k = (findL l k).map (f k)
  | [] => rfl
  | x :: l => by
    rw [List.map_cons, findL_cons, findL_cons, findL_map f k l]
    by_cases e : x.1 = k
    · simp [e]
    · simp [e]
theorem nodup_map {K V W : Type} (f : K → V → W) {l : List (K × V)} (h : NoDupL l) : NoDupL (l.map (fun x => (x.1, f x.1 x.2))) := by
  unfold NoDupL at *
  rw [List.pairwise_map]
  exact h

/-- A kind of map: its type, its key's and its element's; how keys and elements are told. -/
structure MapSp (P : Program) (K V : Type) where
  t : TypeId
  kt : TypeId
  et : TypeId
  und : P.underlying t = some (.map kt et)
  keyed : Maps.Keyed P kt
  kv : K → Value
  kl : K → Lit
  okK : K → Prop
  keyOf : ∀ k, okK k → keyOf P kt (kv k) = some (kl k)
  keyInv : ∀ v l, Go.keyOf P kt v = some l → ∃ k, v = kv k ∧ l = kl k ∧ okK k
  klInj : ∀ k k', kl k = kl k' → k = k'
  kvInj : ∀ k k', kv k = kv k' → k = k'
  vv : V → Value
  dv : V → DataW Unit
  rd : Value → Option (DataW Unit × List MemPlace)
  rdMk : ∀ x, rd (vv x) = some (dv x, [])
  rdInv : ∀ v y, rd v = some y → ∃ x, v = vv x ∧ y = (dv x, [])
  dvInj : ∀ x y, dv x = dv y → x = y
  vvInj : ∀ x y, vv x = vv y → x = y
  z : V
  zero : ∀ w, (zeroValue et).run P w = .ok (vv z) w

section
variable {P : Program} {K V : Type} [DecidableEq K] (S : MapSp P K V)
omit [DecidableEq K] in
theorem MapSp.kl_ne {k k' : K} (h : k ≠ k') : S.kl k ≠ S.kl k' := fun e => h (S.klInj _ _ e)
omit [DecidableEq K] in
theorem MapSp.isKl {k : K} (h : S.okK k) : WideAt.IsKeyLit (S.kl k) := S.keyed.key (S.keyOf k h)

/-- What a map reads as, and the entries. -/
structure MapIs (D : DataW Unit) (l : List (K × V)) : Prop where
  has : ∀ k, Maps.has D (S.kl k) = (findL l k).isSome
  at_ : ∀ k m, findL l k = some m → ∀ z, D.atKey (S.kl k) z = S.dv m
  size : Maps.size D = l.length
  nodup : NoDupL l
theorem MapIs.nil : MapIs S (.map []) ([] : List (K × V)) := ⟨fun _ => rfl, fun _ _ h => (by cases h), rfl, List.Pairwise.nil⟩
variable {S}
theorem MapIs.perm {D : DataW Unit} {l l' : List (K × V)} (h : MapIs S D l) (hp : l.Perm l') : MapIs S D l' :=
  ⟨fun k => by rw [h.has, findL_perm hp h.nodup], fun k m hm => h.at_ k m (by rw [findL_perm hp h.nodup]; exact hm), by rw [h.size, hp.length_eq], h.nodup.perm hp⟩
theorem MapIs.atz {D : DataW Unit} {l : List (K × V)} (h : MapIs S D l) (k : K) (z : DataW Unit) : D.atKey (S.kl k) z = match findL l k with | none => z | some m => S.dv m := by
  cases e : findL l k with
  | none => exact Maps.atKey_of_not_has (by rw [h.has, e]; rfl) z
  | some m => exact h.at_ k m e z
theorem MapIs.put {D : DataW Unit} {l : List (K × V)} (h : MapIs S D l) (hT : Maps.Tidy D) {k : K} (hk : S.okK k) (v : V) : MapIs S (D.put (S.kl k) (S.dv v)) (putL l k v) where
  has k' := by
    by_cases e : k' = k
    · subst e
      rw [Maps.has_put_same hT.isMap (S.isKl hk), putL_same]
      rfl
    · rw [Maps.has_put_other (S.kl_ne e), putL_other l e, h.has]
  at_ k' m hm z := by
    by_cases e : k' = k
    · subst e
      rw [putL_same] at hm
      cases hm
      exact Maps.atKey_put_same hT.isMap (S.isKl hk) _ _
    · rw [putL_other l e] at hm
      rw [Maps.atKey_put_other (S.kl_ne e)]
      exact h.at_ k' m hm z
  size := by
    rw [Maps.size_put hT, h.has, h.size]
    have := dropL_len (k := k) h.nodup
    unfold putL
    rw [List.length_append, List.length_singleton]
    split <;> simp_all
  nodup := h.nodup.put k v
theorem MapIs.del {D : DataW Unit} {l : List (K × V)} (h : MapIs S D l) (hT : Maps.Tidy D) (k : K) : MapIs S (D.del (S.kl k)) (dropL l k) where
  has k' := by
    by_cases e : k' = k
    · subst e
      rw [Maps.has_del_same, dropL_same]
      rfl
    · rw [Maps.has_del_other (S.kl_ne e), dropL_other e, h.has]
  at_ k' m hm z := by
    by_cases e : k' = k
    · subst e
      rw [dropL_same] at hm
      cases hm
    · rw [dropL_other e] at hm
      rw [Maps.atKey_del_other (S.kl_ne e)]
      exact h.at_ k' m hm z
  size := by
    have h1 := Maps.size_del (k := S.kl k) hT
    rw [h.has, h.size] at h1
    have := dropL_len (k := k) h.nodup
    omega
  nodup := h.nodup.drop k

theorem owns_tight {w : World} {kt : TypeId} {R : Value → Option (DataW Unit × List MemPlace)} {b n : Nat} {D : DataW Unit} (h : w.ownsMap P kt R b n D) : w.ownsMap P kt R b (Maps.size D) D := by
  obtain ⟨es, clock, hb, F, hs, rfl⟩ := h
  refine ⟨es, clock, hb, F, ?_, rfl⟩
  rw [Maps.size_eq, length_sorted]
  simp
variable (S)
/-- Block m is the map of the entries l. -/
def MapAt (w : World) (m : Nat) (l : List (K × V)) : Prop := ∃ D, w.ownsMap P S.kt S.rd m l.length D ∧ MapIs S D l
variable {S}
theorem MapAt.lt {w : World} {m : Nat} {l : List (K × V)} (h : MapAt S w m l) : m < w.heap.size := by obtain ⟨_, h, _⟩ := h; exact h.lt
theorem MapAt.nodup {w : World} {m : Nat} {l : List (K × V)} (h : MapAt S w m l) : NoDupL l := by obtain ⟨_, _, h⟩ := h; exact h.nodup
theorem MapAt.of {w w' : World} {m : Nat} {l : List (K × V)} (h : MapAt S w m l) (hc : w'.heap[m]? = w.heap[m]?) : MapAt S w' m l := by
  obtain ⟨D, ⟨es, clock, hb, F, hs, hD⟩, hM⟩ := h
  exact ⟨D, ⟨es, clock, hc.trans hb, F, hs, hD⟩, hM⟩
theorem MapAt.chg {G : List Nat} {w w' : World} {m : Nat} {l : List (K × V)} (h : MapAt S w m l) (hc : Chg G w w') (hn : m ∉ G) : MapAt S w' m l := h.of (hc.block m h.lt hn)
theorem MapAt.keep {w w' : World} {m : Nat} {l : List (K × V)} (h : MapAt S w m l) (hb : Below w.heap.size w w') : MapAt S w' m l := h.of (hb.block m h.lt)
theorem MapAt.perm {w : World} {m : Nat} {l l' : List (K × V)} (h : MapAt S w m l) (hp : l.Perm l') : MapAt S w m l' := by
  obtain ⟨D, h1, h2⟩ := h
  exact ⟨D, by rw [← hp.length_eq]; exact h1, h2.perm hp⟩
theorem MapAt.made (S : MapSp P K V) (w : World) : MapAt S (w.alloc (.map #[] 0)) w.heap.size [] := ⟨_, World.ownsMap_made w P S.kt S.rd, MapIs.nil S⟩
theorem MapAt.look {w : World} {m : Nat} {l : List (K × V)} (h : MapAt S w m l) {k : K} (hk : S.okK k) : (Instr.lookup S.t (.map (some m)) (S.kv k) false).run P w = .ok (S.vv ((findL l k).getD S.z)) w := by
  obtain ⟨D, hown, hM⟩ := h
  obtain ⟨v, ps, hrun, hv⟩ := hown.lookup S.keyed S.und (S.zero w) (S.rdMk _) (S.keyOf k hk)
  obtain ⟨y, rfl, hy⟩ := S.rdInv _ _ hv
  rw [hM.atz] at hy
  rw [hrun]
  have h2 := congrArg Prod.fst hy
  cases e : findL l k with
  | none => rw [e] at h2; rw [← S.dvInj _ _ h2]; rfl
  | some x => rw [e] at h2; rw [← S.dvInj _ _ h2]; rfl
theorem MapAt.look_ok {w : World} {m : Nat} {l : List (K × V)} (h : MapAt S w m l) {k : K} (hk : S.okK k) : (Instr.lookup S.t (.map (some m)) (S.kv k) true).run P w = .ok (.tuple #[S.vv ((findL l k).getD S.z), .bool (findL l k).isSome]) w := by
  obtain ⟨D, hown, hM⟩ := h
  obtain ⟨v, ps, hrun, hv⟩ := hown.look_ok S.keyed S.und (S.zero w) (S.rdMk _) (S.keyOf k hk)
  obtain ⟨y, rfl, hy⟩ := S.rdInv _ _ hv
  rw [hM.atz] at hy
  rw [hM.has k] at hrun
  rw [hrun]
  have h2 := congrArg Prod.fst hy
  cases e : findL l k with
  | none => rw [e] at h2; rw [← S.dvInj _ _ h2]; rfl
  | some x => rw [e] at h2; rw [← S.dvInj _ _ h2]; rfl
theorem MapAt.len {w : World} {m : Nat} {l : List (K × V)} (h : MapAt S w m l) (ty : TypeId) : (Builtin.len_ #[S.t] ty #[.map (some m)]).run P w = .ok (.int .i64 l.length) w := by
  obtain ⟨D, hown, hM⟩ := h
  rw [hown.len S.und ty, hM.size]
theorem MapAt.del {w w' : World} {m : Nat} {l : List (K × V)} {D : DataW Unit} {k : K} {n : Nat} (hM : MapIs S D l) (ho : w.ownsMap P S.kt S.rd m n D) (h : w'.ownsMap P S.kt S.rd m l.length (D.del (S.kl k))) : MapAt S w' m (dropL l k) := by
  have h2 := hM.del (ho.tidy S.keyed) k
  refine ⟨_, ?_, h2⟩
  have h3 := owns_tight h
  rw [h2.size] at h3
  exact h3
theorem MapAt.put {w w' : World} {m : Nat} {l : List (K × V)} {D : DataW Unit} {k : K} {n : Nat} {v : V} (hM : MapIs S D l) (ho : w.ownsMap P S.kt S.rd m n D) (hk : S.okK k) (h : w'.ownsMap P S.kt S.rd m (l.length + 1) (D.put (S.kl k) (S.dv v))) : MapAt S w' m (putL l k v) := by
  have h2 := hM.put (ho.tidy S.keyed) hk v
  refine ⟨_, ?_, h2⟩
  have h3 := owns_tight h
  rw [h2.size] at h3
  exact h3

section
variable {w : World} {ops : Array Oper} {rest : List Oper} {o : Oper} {a : Act} {Q : Exit → Act → World → Prop}
/-- 'delete(m, k)': (at_delete; refine map_delete rfl _ _ _ _ rfl h rfl hk ?_; intro w1 h1 hc1). -/
theorem map_delete (hg : o.guard = none) (x y : Operand) (t kt : TypeId) (hop : o.op = Op.call { callee := Callee.builtin Builtin.delete, args := #[x, y], argTypes := #[t, kt] }) (ht : t = S.t) (hkt : kt = S.kt)
    {m : Nat} {l : List (K × V)} (hm : a.eval x = .map (some m)) (h : MapAt S w m l) {k : K} (hx : a.eval y = S.kv k) (hk : S.okK k)
    (hK : ∀ w', MapAt S w' m (dropL l k) → Chg [m] w w' → wpList P ops Q rest (a.put o.dst (.tuple #[])) w') :
    wpList P ops Q (o :: rest) a w := by
  subst ht hkt
  obtain ⟨D, hown, hM⟩ := h
  exact wpList_delete_own w hg x y S.t S.kt hop S.et S.keyed S.und S.rd m l.length D hm hown (S.kv k) (S.kl k) hx (S.keyOf k hk) (fun w' h1 h2 => hK w' (MapAt.del hM hown h1) (Chg.only h2.grown))
/-- 'm[k] = v'. -/
theorem map_store (hg : o.guard = none) (x y u : Operand) (t : TypeId) (hop : o.op = Op.mapUpdate t x y u) (ht : t = S.t)
    {m : Nat} {l : List (K × V)} (hm : a.eval x = .map (some m)) (h : MapAt S w m l) (hn : l.length < maxLen) {k : K} {v : V} (hx : a.eval y = S.kv k) (hu : a.eval u = S.vv v) (hk : S.okK k)
    (hK : ∀ w', MapAt S w' m (putL l k v) → Chg [m] w w' → wpList P ops Q rest (a.put o.dst undef) w') :
    wpList P ops Q (o :: rest) a w := by
  subst ht
  obtain ⟨D, hown, hM⟩ := h
  exact wpList_mapUpdate_own w hg x y u S.t hop S.kt S.et S.keyed S.und S.rd m l.length D hm hown hn (S.kv k) (S.vv v) (S.kl k) hx hu (S.keyOf k hk) (S.dv v) [] (S.rdMk v) (fun w' h1 h2 => hK w' (MapAt.put hM hown hk h1) (Chg.only h2))
end

variable (S)
/-- A range over block m under way: r is its state, these entries were handed out. -/
def MapRun (w : World) (m r : Nat) (l gone : List (K × V)) (cnt : Nat) : Prop :=
  ∃ D left, w.ranges P S.kt S.rd m r l.length D left cnt ∧ MapIs S D l ∧ (gone ++ l.filter (fun x => left (S.kl x.1))).Perm l ∧ r ≠ m
variable {S}
theorem ranges_chg {G : List Nat} {w w' : World} {kt : TypeId} {R : Value → Option (DataW Unit × List MemPlace)} {b r n cnt : Nat} {D : DataW Unit} {left : Lit → Bool} (h : w.ranges P kt R b r n D left cnt) (hc : Chg G w w') (hb : b ∉ G) (hr : r ∉ G) : w'.ranges P kt R b r n D left cnt := by
  have hlt := h.owns.lt
  have hrt := h.lt
  obtain ⟨es, clock, since, seen, c0, h1, h2, h3, h4, h5, h6⟩ := h
  exact ⟨es, clock, since, seen, c0, (hc.block b hlt hb).trans h1, h2, h3, h4, (hc.block r hrt hr).trans h5, h6⟩
theorem MapRun.chg {G : List Nat} {w w' : World} {m r cnt : Nat} {l gone : List (K × V)} (h : MapRun S w m r l gone cnt) (hc : Chg G w w') (hb : m ∉ G) (hr : r ∉ G) : MapRun S w' m r l gone cnt := by
  obtain ⟨D, left, h1, h2⟩ := h
  exact ⟨D, left, ranges_chg h1 hc hb hr, h2⟩
theorem MapRun.lt {w : World} {m r cnt : Nat} {l gone : List (K × V)} (h : MapRun S w m r l gone cnt) : r < w.heap.size := by obtain ⟨D, left, h1, _⟩ := h; exact h1.lt
theorem MapRun.left {w : World} {m r cnt : Nat} {l gone : List (K × V)} (h : MapRun S w m r l gone cnt) : w.rangeLeft m r = cnt := by obtain ⟨D, left, h1, _⟩ := h; exact h1.left_eq
theorem MapRun.at_ {w : World} {m r cnt : Nat} {l gone : List (K × V)} (h : MapRun S w m r l gone cnt) : MapAt S w m l := by obtain ⟨D, left, h1, h2, _⟩ := h; exact ⟨D, h1.owns, h2⟩
section
variable {w : World} {ops : Array Oper} {rest : List Oper} {o : Oper} {a : Act} {Q : Exit → Act → World → Prop}
/-- 'range m': (at_range; refine map_range rfl _ _ rfl rfl rfl h ?_; intro w1 h1 hc1 hs1). -/
theorem map_range (hg : o.guard = none) (x : Operand) (t : TypeId) (hop : o.op = Op.range t x) (ht : t = S.t) {m : Nat} {l : List (K × V)} (hm : a.eval x = .map (some m)) (h : MapAt S w m l)
    (hK : ∀ w', MapRun S w' m w.heap.size l [] l.length → Below w.heap.size w w' → w'.heap.size = w.heap.size + 1 → wpList P ops Q rest (a.put o.dst (.pointer (some ⟨w.heap.size, 0, none⟩))) w') :
    wpList P ops Q (o :: rest) a w := by
  subst ht
  have hlt := h.lt
  obtain ⟨D, hown, hM⟩ := h
  refine wpList_range_own w hg x S.t hop S.kt S.et S.keyed S.und S.rd m l.length D hm hown (fun w' h1 h2 h3 => hK w' ⟨D, Maps.has D, ?_, hM, ?_, by omega⟩ ⟨h2.os, h2.tape, h2.output, h2.size, fun k hk => h2.block k hk (by simp)⟩ h3)
  · rw [hM.size] at h1
    exact h1
  · rw [List.nil_append, List.filter_eq_self.2 (fun y hy => by rw [hM.has, findL_of_mem hM.nodup hy]; rfl)]
/-- The step: (at_next; refine map_next rfl _ rfl rfl h ?_ ?_). -/
theorem map_next (hg : o.guard = none) (it : Operand) (hop : o.op = Op.next it false) {m r cnt : Nat} {l gone : List (K × V)} (hit : a.eval it = .pointer (some ⟨r, 0, none⟩)) (h : MapRun S w m r l gone cnt)
    (hDone : gone.Perm l → wpList P ops Q rest (a.put o.dst (.tuple #[.bool false])) w)
    (hMore : ∀ (k : K) (v : V) (w' : World) (cnt' : Nat), findL l k = some v → S.okK k → findL gone k = none → MapRun S w' m r l (gone ++ [(k, v)]) cnt' → cnt' < cnt → Chg [r] w w' → w'.heap.size = w.heap.size →
      (Instr.entry (.pointer (some ⟨r, 0, none⟩))).run P w' = .ok (.tuple #[S.kv k, S.vv v]) w' → wpList P ops Q rest (a.put o.dst (.tuple #[.bool true, S.kv k, S.vv v])) w') :
    wpList P ops Q (o :: rest) a w := by
  obtain ⟨D, left, hrg, hM, hp, hne⟩ := h
  refine wpList_next_ranges w hg it hop S.kt S.keyed S.rd S.kv S.vv (fun key kl hk => ?_) (fun v y hv => ?_) m r l.length D left cnt hit hrg (fun _ hl => hDone ?_) ?_
  · obtain ⟨k, h1, _⟩ := S.keyInv _ _ hk; exact ⟨k, h1⟩
  · obtain ⟨c, h1, _⟩ := S.rdInv _ _ hv; exact ⟨c, h1⟩
  · rw [List.filter_eq_nil_iff.2 (fun x _ => by simp [hl]), List.append_nil] at hp
    exact hp
  · intro k c kl y w' cnt' hkey hlk hR hat hrg1 hlt hg1 hs1 hen
    obtain ⟨k', e1, e2, hok⟩ := S.keyInv _ _ hkey
    obtain rfl := S.kvInj _ _ e1
    subst e2
    obtain ⟨c', e3, e4⟩ := S.rdInv _ _ hR
    obtain rfl := S.vvInj _ _ e3
    have hfd : findL l k = some c := by
      have h1 := Maps.has_true_of_atKey hat
      rw [hM.has] at h1
      cases e : findL l k with
      | none => rw [e] at h1; cases h1
      | some m2 =>
        have h2 := hM.at_ k m2 e (S.dv S.z)
        rw [hat, e4] at h2
        exact congrArg some (S.dvInj _ _ h2).symm
    have hsame : ∀ k2, (S.kl k2).sameKey (S.kl k) = decide (k2 = k) := by
      intro k2
      by_cases e : k2 = k
      · subst e
        rw [decide_eq_true rfl]
        exact WideAt.sameKey_self (S.isKl hok)
      · rw [decide_eq_false e]
        exact Maps.sameKey_ne (S.kl_ne e)
    have hnd := hM.nodup
    have hd2 : NoDupL (gone ++ l.filter (fun x => left (S.kl x.1))) := hnd.perm hp.symm
    have hmem : (k, c) ∈ l.filter (fun x => left (S.kl x.1)) := List.mem_filter.2 ⟨findL_mem hfd, hlk⟩
    have hgn : findL gone k = none := findL_none.2 (fun x hx => (List.pairwise_append.1 hd2).2.2 x hx (k, c) hmem)
    refine hMore k c w' cnt' hfd hok hgn ⟨D, _, hrg1, hM, ?_, hne⟩ hlt (Chg.only hg1) hs1 hen
    refine List.Perm.trans ?_ hp
    rw [List.append_assoc]
    refine List.Perm.append_left _ ?_
    have hf : (l.filter fun x => left (S.kl x.1) && !(S.kl x.1).sameKey (S.kl k)) = dropL (l.filter fun x => left (S.kl x.1)) k := by
      unfold dropL
      rw [List.filter_filter]
      congr 1
      funext x
      rw [hsame, Bool.and_comm]
    rw [hf]
    have hdl : NoDupL (l.filter fun x => left (S.kl x.1)) := List.Pairwise.filter _ hnd
    revert hdl hmem
    generalize (l.filter fun x => left (S.kl x.1)) = q
    intro hmem hdl
    clear hf hd2 hp hrg hrg1
    induction q with
    | nil => cases hmem
    | cons x q ih =>
      rcases List.mem_cons.1 hmem with e | e
      · subst e
        have : dropL ((k, c) :: q) k = q := by
          unfold dropL
          rw [List.filter_cons]
          simp only [decide_true, Bool.not_true, Bool.false_eq_true, if_false]
          rw [List.filter_eq_self.2 (fun y hy => by simpa using Ne.symm ((List.pairwise_cons.1 hdl).1 y hy))]
        rw [this]
        exact List.Perm.refl _
      · have hx := (List.pairwise_cons.1 hdl).1 _ e
        have : dropL (x :: q) k = x :: dropL q k := by
          unfold dropL
          rw [List.filter_cons]
          simp [hx]
        rw [this]
        exact (List.Perm.swap x (k, c) _).trans (List.Perm.cons x (ih e (List.pairwise_cons.1 hdl).2))
end
end
end Go.Proofs.Ytbeldjijnjgbfaa
