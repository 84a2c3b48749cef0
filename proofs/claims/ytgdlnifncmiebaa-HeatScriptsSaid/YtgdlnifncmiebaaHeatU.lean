/-
  The reference's Hot as plain data.
-/
import Derived.Test.YtgdlnifncmiebaaHeatMath2
namespace Go.Proofs.Ytgdlnifncmiebaa

theorem ins_split (x : ItD) : ∀ {A B : List ItD}, (∀ y ∈ A, hotter x y = false) → (∀ y ∈ B, hotter x y = true) → insI x (A ++ B) = A ++ x :: B
  | [], [], _, _ => rfl
  | [], y :: r, _, h => by
    show insI x (y :: r) = x :: y :: r
    unfold insI
    rw [if_pos (h y (by simp))]
  | a :: A, B, h1, h2 => by
    show insI x (a :: (A ++ B)) = a :: (A ++ x :: B)
    unfold insI
    rw [if_neg (by rw [h1 a (by simp)]; simp), ins_split x (fun y hy => h1 y (List.mem_cons_of_mem _ hy)) h2]
def foldI (l : List ItD) : List ItD := l.foldl (fun s x => insI x s) []
theorem foldI_snoc (l : List ItD) (x : ItD) : foldI (l ++ [x]) = insI x (foldI l) := by unfold foldI; rw [List.foldl_append]; rfl
theorem foldI_go : ∀ (l s : List ItD), InOrder s → InOrder (l.foldl (fun s x => insI x s) s) ∧ (l.foldl (fun s x => insI x s) s).Perm (l ++ s)
  | [], s, h => ⟨h, List.Perm.refl _⟩
  | x :: r, s, h => by
    obtain ⟨h1, h2⟩ := foldI_go r (insI x s) (ins_order x h)
    refine ⟨h1, h2.trans ?_⟩
    refine ((ins_perm x s).append_left r).trans ?_
    exact List.perm_middle
theorem foldI_order (l : List ItD) : InOrder (foldI l) := (foldI_go l [] List.Pairwise.nil).1
theorem foldI_sort (l : List ItD) : foldI l = sortI l := by
  refine order_eq ?_ (foldI_order l) (sort_order l)
  have := (foldI_go l [] List.Pairwise.nil).2
  rw [List.append_nil] at this
  exact this.trans (sort_perm l).symm
/-- The first j counts' items, in order. -/
def SJ (l : List MkD) (now : Int) (j : Nat) : List ItD := foldI (itemsM (l.take j) now)
theorem sj_zero (l : List MkD) (now : Int) : SJ l now 0 = [] := by unfold SJ; rw [List.take_zero]; rfl
theorem sj_succ {l : List MkD} {now : Int} {j : Nat} (hj : j < l.length) : SJ l now (j + 1) = match itM now l[j] with | none => SJ l now j | some x => insI x (SJ l now j) := by
  unfold SJ
  rw [List.take_succ_eq_append_getElem hj]
  unfold itemsM
  rw [List.filterMap_append]
  cases e : itM now l[j] with
  | none => simp [e]
  | some x => rw [show List.filterMap (itM now) [l[j]] = [x] by simp [e], foldI_snoc]
theorem sj_all (l : List MkD) (now : Int) : SJ l now l.length = sortI (itemsM l now) := by unfold SJ; rw [List.take_of_length_le (Nat.le_refl _), foldI_sort]
theorem sj_len (l : List MkD) (now : Int) (j : Nat) : (SJ l now j).length ≤ l.length := by
  have h1 := (foldI_go (itemsM (l.take j) now) [] List.Pairwise.nil).2.length_eq
  rw [List.append_nil] at h1
  have h2 := items_len (l.take j) now
  rw [List.length_take] at h2
  show (foldI (itemsM (l.take j) now)).length ≤ _
  unfold foldI
  omega
theorem sj_order (l : List MkD) (now : Int) (j : Nat) : InOrder (SJ l now j) := foldI_order _
/-- Where x goes in: behind all that it isn't hotter than. -/
theorem ins_at {S : List ItD} (hS : InOrder S) (x : ItD) (p : Nat) (hp : p ≤ S.length) (hb : ∀ y ∈ S.drop p, hotter x y = true) (ha : p = 0 ∨ ∃ h : p - 1 < S.length, hotter x S[p - 1] = false) : insI x S = S.take p ++ x :: S.drop p := by
  have e : S = S.take p ++ S.drop p := (List.take_append_drop p S).symm
  conv => lhs; rw [e]
  refine ins_split x (fun y hy => ?_) hb
  rcases ha with rfl | ⟨hlt, hz⟩
  · simp at hy
  · obtain ⟨i, hi, rfl⟩ := List.getElem_of_mem hy
    rw [List.length_take] at hi
    rw [List.getElem_take]
    rcases Nat.lt_or_ge i (p - 1) with h | h
    · have := List.pairwise_iff_getElem.1 hS i (p - 1) (by omega) hlt h
      exact hotter_strict.ge hz this
    · have : i = p - 1 := by omega
      subst this
      exact hz
end Go.Proofs.Ytgdlnifncmiebaa
