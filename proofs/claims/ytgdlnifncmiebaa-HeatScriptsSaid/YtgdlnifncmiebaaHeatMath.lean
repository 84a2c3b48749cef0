/-
  What counts are worth, later and in another order: plain data.
-/
import Derived.Test.YtgdlnifncmiebaaHeatRun
namespace Go.Proofs.Ytgdlnifncmiebaa

theorem worth_next {c t now : Int} (h0 : 0 ≤ c) (h1 : c ≤ 1048576) (ht : t ≤ now) : worthOf c t (now + 1) = worthOf c t now / 2 := by
  unfold worthOf
  rw [if_neg (by omega)]
  by_cases h : now ≤ t
  · rw [if_pos h]
    have e : min (now + 1 - t).toNat 30 = 1 := by omega
    rw [e]
    rfl
  · rw [if_neg h]
    by_cases h30 : 30 ≤ (now - t).toNat
    · rw [show min (now + 1 - t).toNat 30 = 30 by omega, show min (now - t).toNat 30 = 30 by omega]
      have e : c / 2 ^ 30 = 0 := Int.ediv_eq_zero_of_lt h0 (by omega)
      rw [e]; rfl
    · rw [show min (now + 1 - t).toNat 30 = (now - t).toNat + 1 by omega, show min (now - t).toNat 30 = (now - t).toNat by omega]
      rw [Int.pow_succ, Int.ediv_ediv_of_nonneg (Int.pow_nonneg (by omega))]
/-- All ticks are at most n. -/
def Upto (l : List MkD) (n : Int) : Prop := ∀ x ∈ l, x.2.2 ≤ n
theorem upto_touch {l : List MkD} {n : Int} (h : Upto l n) (k : ByteArray) {now : Int} (hn : now ≤ n) : Upto (touchM l k now) n := by
  intro x hx
  unfold touchM at hx
  rcases List.mem_append.1 hx with h1 | h1
  · exact h x (List.mem_filter.1 h1).1
  · rw [List.mem_singleton] at h1
    subst h1
    show (newM l k now).2 ≤ n
    unfold newM
    cases e : findM l k with
    | none => exact hn
    | some m => have := h _ (find_mem e); show max m.2 now ≤ n; have h2 : m.2 ≤ n := this; omega
theorem upto_run {n : Int} : ∀ (s : List OpH) (l : List MkD), Upto l n → (∀ x ∈ s, x.2.2.1 ≤ n) → Upto (runH l s) n
  | [], _, h, _ => h
  | x :: r, l, h, hs => upto_run r (touchM l x.2.1 x.2.2.1) (upto_touch h x.2.1 (hs x (by simp))) (fun y hy => hs y (List.mem_cons_of_mem _ hy))
theorem value_bounds {l : List MkD} (h : OkM l) (k : ByteArray) (now : Int) : 0 ≤ valueM l k now ∧ valueM l k now ≤ 1048576 := by
  unfold valueM
  cases e : findM l k with
  | none => exact ⟨(show (0 : Int) ≤ 0 by decide), (show (0 : Int) ≤ 1048576 by decide)⟩
  | some m => have h2 := h.tick e; have h3 := worth_le m.2 now h2.2.1; exact ⟨h3.1, Int.le_trans h3.2 h2.2.2.1⟩
theorem value_next {l : List MkD} (h : OkM l) {now : Int} (hu : Upto l now) (k : ByteArray) : valueM l k (now + 1) = valueM l k now / 2 := by
  unfold valueM
  cases e : findM l k with
  | none => rfl
  | some m => have h2 := h.tick e; exact worth_next h2.2.1 h2.2.2.1 (hu _ (find_mem e))
theorem value_touch {l : List MkD} {now : Int} (hu : Upto l now) (k : ByteArray) : valueM (touchM l k now) k now = min (valueM l k now + 16) 1048576 := by
  unfold valueM
  rw [touch_same]
  unfold newM
  cases e : findM l k with
  | none => show worthOf 16 now now = min ((0 : Int) + 16) 1048576; unfold worthOf; rw [if_pos (Int.le_refl _)]; decide
  | some m =>
    have h2 : m.2 ≤ now := hu _ (find_mem e)
    show worthOf (min (worthOf m.1 m.2 now + 16) 1048576) (max m.2 now) now = min (worthOf m.1 m.2 now + 16) 1048576
    unfold worthOf
    rw [if_pos (show now ≤ max m.2 now by omega)]

/-- How many touches of one time come to. -/
def capH (n : Nat) : Int := min (16 * (n : Int)) 1048576
theorem cap_succ (n : Nat) : min (capH n + 16) 1048576 = capH (n + 1) := by unfold capH; omega
def runK (l : List MkD) (s : List ByteArray) (now : Int) : List MkD := s.foldl (fun l k => touchM l k now) l
theorem runk_snoc (l : List MkD) (s : List ByteArray) (k : ByteArray) (now : Int) : runK l (s ++ [k]) now = touchM (runK l s now) k now := by unfold runK; rw [List.foldl_append]; rfl
theorem runk_len (now : Int) : ∀ (s : List ByteArray) (l : List MkD), (runK l s now).length ≤ l.length + s.length
  | [], _ => Nat.le_refl _
  | x :: r, l => by
    have h1 := runk_len now r (touchM l x now)
    have h2 := touch_len (l := l) x now
    show (runK (touchM l x now) r now).length ≤ _
    simp only [List.length_cons]
    omega
theorem runk_ok {now : Int} (hn : In64 now) : ∀ (s : List ByteArray) (l : List MkD), OkM l → l.length + s.length ≤ 70000 → OkM (runK l s now)
  | [], _, h, _ => h
  | x :: r, l, h, hl => by
    have h2 := touch_len (l := l) x now
    simp only [List.length_cons] at hl
    exact runk_ok hn r (touchM l x now) (touch_ok h x hn (by omega)) (by omega)
def cntK (s : List ByteArray) (k : ByteArray) : Nat := s.countP (fun x => decide (x = k))
/-- The counts of touches of one time, by how often each key is among them. -/
structure AtOnce (l : List MkD) (s : List ByteArray) (now : Int) : Prop where
  nodup : NoDup l
  find : ∀ k, findM l k = if cntK s k = 0 then none else some (capH (cntK s k), now)
theorem once_nil (now : Int) : AtOnce [] [] now := ⟨List.Pairwise.nil, fun _ => rfl⟩
theorem once_snoc {l : List MkD} {s : List ByteArray} {now : Int} (h : AtOnce l s now) (k : ByteArray) : AtOnce (touchM l k now) (s ++ [k]) now where
  nodup := h.nodup.touch k now
  find k' := by
    have hc : cntK (s ++ [k]) k' = cntK s k' + if k = k' then 1 else 0 := by
      unfold cntK
      rw [List.countP_append, List.countP_singleton]
      congr 1
      by_cases e : k = k' <;> simp [e]
    by_cases e : k' = k
    · subst e
      rw [touch_same, hc, if_pos rfl, if_neg (by omega)]
      unfold newM
      rw [h.find]
      by_cases h0 : cntK s k' = 0
      · rw [if_pos h0, h0]
        rfl
      · rw [if_neg h0]
        show some (min (worthOf (capH (cntK s k')) now now + 16) 1048576, max now now) = _
        have e1 : worthOf (capH (cntK s k')) now now = capH (cntK s k') := by unfold worthOf; rw [if_pos (Int.le_refl _)]
        rw [e1, cap_succ, show max now now = now by omega]
    · rw [touch_other l e, h.find, hc, if_neg (Ne.symm e)]
      rfl
theorem once_run {now : Int} : ∀ (s s0 : List ByteArray) (l : List MkD), AtOnce l s0 now → AtOnce (runK l s now) (s0 ++ s) now
  | [], s0, l, h => by rw [List.append_nil]; exact h
  | k :: r, s0, l, h => by
    have := once_run r (s0 ++ [k]) (touchM l k now) (once_snoc h k)
    rw [List.append_assoc] at this
    exact this
theorem mem_find {l : List MkD} (hd : NoDup l) (x : MkD) : x ∈ l ↔ findM l x.1 = some x.2 :=
  ⟨fun h => find_of_mem hd h, fun h => by have := find_mem h; exact this⟩
/-- Touches of one time: the same counts, in whatever order. -/
theorem once_perm {l r : List MkD} {s t : List ByteArray} {now : Int} (h : AtOnce l s now) (k : AtOnce r t now) (hp : s.Perm t) : l.Perm r := by
  have hn1 : l.Nodup := h.nodup.imp (fun hne e => hne (by rw [e]))
  have hn2 : r.Nodup := k.nodup.imp (fun hne e => hne (by rw [e]))
  rw [List.perm_ext_iff_of_nodup hn1 hn2]
  intro x
  rw [mem_find h.nodup, mem_find k.nodup, h.find, k.find]
  have e : cntK s x.1 = cntK t x.1 := hp.countP_eq _
  rw [e]
end Go.Proofs.Ytgdlnifncmiebaa
