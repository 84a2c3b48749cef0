/-
  The hottest keys as plain data. No program here.
-/
import Derived.Test.YtgdlnifncmiebaaHeatI
namespace Go.Proofs.Ytgdlnifncmiebaa

def itM (now : Int) (x : MkD) : Option ItD := if 0 < worthOf x.2.1 x.2.2 now then some (x.1, worthOf x.2.1 x.2.2 now) else none
def itemsM (l : List MkD) (now : Int) : List ItD := l.filterMap (itM now)
def insI (x : ItD) : List ItD → List ItD
  | [] => [x]
  | y :: r => if hotter x y = true then x :: y :: r else y :: insI x r
def sortI : List ItD → List ItD
  | [] => []
  | x :: r => insI x (sortI r)
def hotM (l : List MkD) (now n : Int) : List ByteArray := ((sortI (itemsM l now)).take n.toNat).map (·.1)
abbrev InOrder (s : List ItD) : Prop := s.Pairwise (fun a b => hotter b a = false)
theorem ins_perm (x : ItD) : ∀ l : List ItD, (insI x l).Perm (x :: l)
  | [] => List.Perm.refl _
  | y :: r => by
    unfold insI
    split
    · exact List.Perm.refl _
    · exact ((ins_perm x r).cons y).trans (List.Perm.swap x y r)
theorem sort_perm : ∀ l : List ItD, (sortI l).Perm l
  | [] => List.Perm.refl _
  | x :: r => (ins_perm x _).trans ((sort_perm r).cons x)
theorem ins_order (x : ItD) : ∀ {l : List ItD}, InOrder l → InOrder (insI x l)
  | [], _ => by simp [insI]
  | y :: r, h => by
    unfold insI
    obtain ⟨h1, h2⟩ := List.pairwise_cons.1 h
    split
    · next hx =>
      refine List.pairwise_cons.2 ⟨fun z hz => ?_, h⟩
      rcases List.mem_cons.1 hz with rfl | hz2
      · exact hotter_strict.asym hx
      · exact hotter_strict.ge (h1 z hz2) (hotter_strict.asym hx)
    · next hx =>
      refine List.pairwise_cons.2 ⟨fun z hz => ?_, ins_order x h2⟩
      rcases List.mem_cons.1 ((ins_perm x r).mem_iff.1 hz) with rfl | hz2
      · simpa using hx
      · exact h1 z hz2
theorem sort_order : ∀ l : List ItD, InOrder (sortI l)
  | [] => List.Pairwise.nil
  | x :: r => ins_order x (sort_order r)
/-- Two lists in order of the same things are the same. -/
theorem order_eq : ∀ {s t : List ItD}, s.Perm t → InOrder s → InOrder t → s = t := by
  intro s t hp h1 h2
  exact hp.eq_of_pairwise (fun a b _ _ k1 k2 => hotter_strict.tot a b k2 k1) h1 h2
theorem items_perm {l r : List MkD} (h : l.Perm r) (now : Int) : (itemsM l now).Perm (itemsM r now) := h.filterMap _
theorem hot_perm {l r : List MkD} (h : l.Perm r) (now n : Int) : hotM l now n = hotM r now n := by
  unfold hotM
  rw [order_eq (((sort_perm _).trans (items_perm h now)).trans (sort_perm _).symm) (sort_order _) (sort_order _)]

theorem filter_one (p : MkD → Bool) (x : MkD) : ∀ {l : List MkD}, NoDup l → x ∈ l → p x = false → (l.filter (fun y => p y || decide (y.1 = x.1))).Perm (l.filter p ++ [x])
  | [], _, h, _ => by cases h
  | y :: r, hd, hx, hp => by
    obtain ⟨h1, h2⟩ := List.pairwise_cons.1 hd
    rcases List.mem_cons.1 hx with rfl | hxr
    · have e : ∀ z ∈ r, (p z || decide (z.1 = x.1)) = p z := fun z hz => by
        have := h1 z hz
        simp [Ne.symm this]
      rw [List.filter_cons, List.filter_cons, hp]
      simp only [decide_true, Bool.or_true, if_true, Bool.false_eq_true, if_false]
      rw [List.filter_congr e]
      exact (List.perm_append_singleton _ _).symm
    · have hne : y.1 ≠ x.1 := h1 x hxr
      have ih := filter_one p x h2 hxr hp
      rw [List.filter_cons, List.filter_cons]
      simp only [hne, decide_false, Bool.or_false]
      split
      · exact ih.cons y
      · exact ih
theorem items_one (left : Lit → Bool) (k : ByteArray) (m : Int × Int) (now : Int) {l : List MkD} (hd : NoDup l) (hm : findM l k = some m) (hl : left (kl k) = true) :
    (itemsM (l.filter (fun y => !(left (kl y.1) && !(kl y.1).sameKey (kl k)))) now).Perm (itemsM (l.filter (fun y => !left (kl y.1))) now ++ (itM now (k, m)).toList) := by
  have e : (l.filter (fun y => !(left (kl y.1) && !(kl y.1).sameKey (kl k)))) = l.filter (fun y => (fun z : MkD => !left (kl z.1)) y || decide (y.1 = (k, m).1)) := by
    refine List.filter_congr (fun y _ => ?_)
    rw [sameKey_kl]
    show (!(left (kl y.1) && !decide (y.1 = k))) = (!left (kl y.1) || decide (y.1 = k))
    generalize left (kl y.1) = u
    cases u <;> simp
  rw [e]
  refine (items_perm (filter_one _ (k, m) hd (find_mem hm) (by simpa using hl)) now).trans ?_
  unfold itemsM
  rw [List.filterMap_append]
  have : List.filterMap (itM now) [(k, m)] = (itM now (k, m)).toList := by
    cases h : itM now (k, m) <;> simp [h]
  rw [this]
theorem items_none (left : Lit → Bool) {l : List MkD} (hl : ∀ x ∈ l, left (kl x.1) = true) (now : Int) : itemsM (l.filter (fun y => !left (kl y.1))) now = [] := by
  have : l.filter (fun y => !left (kl y.1)) = [] := by
    rw [List.filter_eq_nil_iff]
    intro x hx
    rw [hl x hx]; simp
  rw [this]
  rfl
theorem items_all (left : Lit → Bool) (l : List MkD) (hl : ∀ k, left k = false) (now : Int) : itemsM (l.filter (fun y => !left (kl y.1))) now = itemsM l now := by
  rw [List.filter_eq_self.2 (fun x _ => by rw [hl]; rfl)]
theorem items_len (l : List MkD) (now : Int) : (itemsM l now).length ≤ l.length := List.length_filterMap_le _ _
end Go.Proofs.Ytgdlnifncmiebaa
