/-
  Package second: what recall takes up, where each group's log tells its entries.
-/
import Derived.Test.YtopinlnjdgedeaaDoorMg38
namespace Go.Proofs.YtopinlnjdgedeaaDoor
open Go Go.RowKit

theorem foldE_other (q : Int) (k : Int) : ∀ (es : List CgE) (M : List DtD), (∀ y ∈ es, y.pos ≠ k) → findD (es.foldl (stepE q) M) k = findD M k
  | [], _, _ => rfl
  | z :: r, M, h => by
    rw [List.foldl_cons, foldE_other q k r _ (fun y hy => h y (List.mem_cons_of_mem _ hy))]
    unfold stepE
    split
    · exact dput_other _ (fun e => h z List.mem_cons_self e.symm) _
    · rfl
theorem stepE_none (q : Int) (M : List DtD) (z : CgE) (h : findD M z.pos = none) : stepE q M z = putD M z.pos (z, q) := by
  unfold stepE freshE
  rw [h]
  rfl
theorem foldE_mem (q : Int) : ∀ (es : List CgE) (M : List DtD), es.Pairwise (fun a b => a.pos ≠ b.pos) → (∀ y ∈ es, findD M y.pos = none) → ∀ y ∈ es, findD (es.foldl (stepE q) M) y.pos = some (y, q)
  | [], _, _, _, _, h => by cases h
  | z :: r, M, hp, hn, y, hy => by
    obtain ⟨h1, h2⟩ := List.pairwise_cons.1 hp
    rw [List.foldl_cons, stepE_none q M z (hn z List.mem_cons_self)]
    rcases List.mem_cons.1 hy with rfl | hy
    · rw [foldE_other q _ r _ (fun a ha => Ne.symm (h1 a ha)), dput_same]
    · exact foldE_mem q r _ h2 (fun a ha => by rw [dput_other _ (Ne.symm (h1 a ha))]; exact hn a (List.mem_cons_of_mem _ ha)) y hy
theorem putAll_map (F : Int → CgE) (k : Int) : ∀ (ks : List Int) (e : List EnD), (∀ a ∈ ks, (F a).pos = a) → findS (putAll e (ks.map F)) k = if k ∈ ks then some (F k) else findS e k
  | [], e, _ => by simp [putAll]
  | a :: r, e, h => by
    have ih := putAll_map F k r (putS e (F a).pos (F a)) (fun b hb => h b (List.mem_cons_of_mem _ hb))
    rw [List.map_cons]
    show findS (putAll (putS e (F a).pos (F a)) (r.map F)) k = _
    rw [ih, h a List.mem_cons_self]
    by_cases h1 : k ∈ r
    · rw [if_pos h1, if_pos (List.mem_cons_of_mem _ h1)]
    · rw [if_neg h1]
      by_cases h2 : k = a
      · subst h2
        rw [if_pos List.mem_cons_self, sput_same]
      · rw [if_neg (fun h3 => by rcases List.mem_cons.1 h3 with h4 | h4; exact h2 h4; exact h1 h4), sput_other _ h2]
theorem keysD_mem {M : List DtD} (h : GoodD M) (k : Int) : k ∈ keysD M ↔ ∃ v, findD M k = some v := by
  unfold keysD
  rw [List.mem_mergeSort]
  constructor
  · intro hk
    obtain ⟨y, hy, rfl⟩ := List.mem_map.1 hk
    exact ⟨_, dfind_of_mem h.1 hy⟩
  · rintro ⟨v, hv⟩
    exact List.mem_map.2 ⟨_, dfind_mem hv, rfl⟩
theorem merged_find (bs : List (Int × List CgE)) (k : Int) : findS (putAll [] (mergeL bs)) k = (findD (newDt bs) k).map (·.1) := by
  have hg := good_new bs
  rw [mergeL_eq, putAll_map]
  · by_cases hk : k ∈ keysD (newDt bs)
    · obtain ⟨v, hv⟩ := (keysD_mem hg k).1 hk
      rw [if_pos hk, hv]
      unfold pickD
      rw [hv]
      rfl
    · rw [if_neg hk]
      cases hv : findD (newDt bs) k with
      | none => rfl
      | some v => exact absurd ((keysD_mem hg k).2 ⟨v, hv⟩) hk
  · intro a ha
    obtain ⟨v, hv⟩ := (keysD_mem hg a).1 ha
    unfold pickD
    rw [hv]
    exact (hg.2 _ (dfind_mem hv)).2.symm
theorem merged_may (bs : List (Int × List CgE)) (k : Int) (y : CgE) (h : findS (putAll [] (mergeL bs)) k = some y) : y.pos = k ∧ MayC y := by
  rw [merged_find] at h
  cases hv : findD (newDt bs) k with
  | none => rw [hv] at h; cases h
  | some v =>
    rw [hv] at h
    simp only [Option.map_some, Option.some.injEq] at h
    have h3 := (good_new bs).2 _ (dfind_mem hv)
    rw [← h]
    exact ⟨h3.2.symm, h3.1⟩

/-- The entries stand at their own places. -/
def Placed (e : List EnD) (f n : Nat) : Prop := ∀ p y, p < roomN n → findS e (secN f p) = some y → y.pos = secN f p
/-- The group's log tells its entries, or there are none. -/
def LogIs (T : Nat → ByteArray) (e : List EnD) (f n g : Nat) : Prop :=
  (T (secN f (7 * g) - 1) = ⟨#[]⟩ ∧ ∀ p, 7 * g ≤ p → p < min (7 * g + 7) (roomN n) → findS e (secN f p) = none) ∨
  ∃ q : Int, chkC q (amongK e f (7 * g) (min (7 * g + 7) (roomN n))) = 0 ∧ T (secN f (7 * g) - 1) = encT q (amongK e f (7 * g) (min (7 * g + 7) (roomN n)))
theorem mem_amongK {e : List EnD} {f fr k : Nat} {y : CgE} {p : Nat} (h1 : fr ≤ p) (h2 : p < k) (h : findS e (secN f p) = some y) : y ∈ amongK e f fr k := by
  unfold amongK
  rw [List.mem_filterMap]
  exact ⟨p, by rw [List.mem_range'_1]; omega, h⟩
theorem amongK_pos {e : List EnD} {f n fr k : Nat} (hp : Placed e f n) (hk : k ≤ roomN n) {y : CgE} (h : y ∈ amongK e f fr k) : ∃ p, fr ≤ p ∧ p < k ∧ findS e (secN f p) = some y ∧ y.pos = secN f p := by
  obtain ⟨p, h1, h2, h3⟩ := amongK_mem h
  exact ⟨p, h1, h2, h3, hp p y (by omega) h3⟩
theorem amongK_pair {e : List EnD} {f n fr k : Nat} (hp : Placed e f n) (hk : k ≤ roomN n) : (amongK e f fr k).Pairwise (fun a b => a.pos ≠ b.pos) := by
  unfold amongK
  rw [List.pairwise_filterMap]
  have hr : (List.range' fr (k - fr)).Pairwise (fun a b => a ≠ b ∧ a < k ∧ b < k) := by
    have h1 : (List.range' fr (k - fr)).Pairwise (· ≠ ·) := List.nodup_range'
    refine List.Pairwise.imp_of_mem ?_ h1
    intro a b ha hb hab
    rw [List.mem_range'_1] at ha hb
    exact ⟨hab, by omega, by omega⟩
  refine hr.imp ?_
  rintro a b ⟨hab, ha, hb⟩ y hy z hz e2
  have h1 := hp a y (by omega) hy
  have h2 := hp b z (by omega) hz
  rw [h1, h2] at e2
  exact hab (secN_inj (by exact_mod_cast e2))
theorem read_log {d : DevD} {T : Nat → ByteArray} {e : List EnD} {f n g : Nat} (hp : Placed e f n) (hT : tellD d (1, ((secN f (7 * g) - 1 : Nat) : Int)) = T (secN f (7 * g) - 1)) (h : LogIs T e f n g) :
    (readX d (newX f n) (7 * g) = (false, 0, []) ∧ ∀ p, 7 * g ≤ p → p < min (7 * g + 7) (roomN n) → findS e (secN f p) = none) ∨
    ∃ q : Int, chkC q (amongK e f (7 * g) (min (7 * g + 7) (roomN n))) = 0 ∧ readX d (newX f n) (7 * g) = (true, q, amongK e f (7 * g) (min (7 * g + 7) (roomN n))) := by
  rcases h with ⟨h1, h2⟩ | ⟨q, h1, h2⟩
  · left
    refine ⟨readX_err (q := ((0, []), 2)) ?_ (by decide), h2⟩
    show decC (tellD d (1, ((secN f (7 * g) - 1 : Nat) : Int))) = _
    rw [hT, h1]
    exact if_pos (by decide)
  · right
    refine ⟨q, h1, ?_⟩
    refine readX_yes (q := ((q, amongK e f (7 * g) (min (7 * g + 7) (roomN n))), 0)) ?_ rfl ?_
    · show decC (tellD d (1, ((secN f (7 * g) - 1 : Nat) : Int))) = _
      rw [hT, h2, ← encT_eq]
      exact (enc_back h1).1
    · intro j hj
      obtain ⟨p, p1, p2, _, p3⟩ := amongK_pos hp (Nat.min_le_right _ _) (List.getElem_mem hj)
      exact isPl_yes (f := f) (n := n) p1 p2 p3.symm
/-- What the first i groups have told. -/
theorem rec_told {d : DevD} {T : Nat → ByteArray} {e : List EnD} {f n : Nat} (hp : Placed e f n) (hT : ∀ g, g < groups n → tellD d (1, ((secN f (7 * g) - 1 : Nat) : Int)) = T (secN f (7 * g) - 1)) (hL : ∀ g, g < groups n → LogIs T e f n g) :
    ∀ i, i ≤ groups n → ∀ p, p < roomN n → (p < 7 * i → (findD (newDt (recT d (newX f n) i).1) (secN f p)).map (·.1) = findS e (secN f p)) ∧ (7 * i ≤ p → findD (newDt (recT d (newX f n) i).1) (secN f p) = none)
  | 0, _, p, _ => ⟨fun h => absurd h (by omega), fun _ => rfl⟩
  | i + 1, hi, p, hpr => by
    have ih := rec_told hp hT hL i (by omega)
    have hro : 7 * i < roomN n := by unfold groups at hi; omega
    rw [recT_succ]
    rcases read_log hp (hT i (by omega)) (hL i (by omega)) with ⟨hr, hnone⟩ | ⟨q, hc, hr⟩
    · rw [recS_no (by rw [hr])]
      refine ⟨fun h => ?_, fun h => (ih p hpr).2 (by omega)⟩
      by_cases h7 : p < 7 * i
      · exact (ih p hpr).1 h7
      · rw [(ih p hpr).2 (by omega), hnone p (by omega) (by omega)]
        rfl
    · have hst : (recS d (newX f n) (recT d (newX f n) i) (7 * i)).1 = (recT d (newX f n) i).1 ++ [(q, amongK e f (7 * i) (min (7 * i + 7) (roomN n)))] := by
        unfold recS
        rw [hr]
        rfl
      rw [hst]
      have hnew : newDt ((recT d (newX f n) i).1 ++ [(q, amongK e f (7 * i) (min (7 * i + 7) (roomN n)))]) = (amongK e f (7 * i) (min (7 * i + 7) (roomN n))).foldl (stepE q) (newDt (recT d (newX f n) i).1) := by
        unfold newDt
        rw [List.foldl_append]
        show stepB _ (q, amongK e f (7 * i) (min (7 * i + 7) (roomN n))) = _
        exact if_pos hc
      rw [hnew]
      have hout : p < 7 * i ∨ 7 * i + 7 ≤ p → ∀ y ∈ amongK e f (7 * i) (min (7 * i + 7) (roomN n)), y.pos ≠ (secN f p : Nat) := by
        intro h y hy e2
        obtain ⟨p', h1, h2, _, h4⟩ := amongK_pos hp (Nat.min_le_right _ _) hy
        rw [h4] at e2
        have := secN_inj (f := f) (by exact_mod_cast e2)
        omega
      refine ⟨fun h => ?_, fun h => ?_⟩
      · by_cases h7 : p < 7 * i
        · rw [foldE_other q _ _ _ (hout (.inl h7))]
          exact (ih p hpr).1 h7
        · cases hf : findS e (secN f p) with
          | none =>
            rw [foldE_other q _ _ _ (fun y hy e2 => by
              obtain ⟨p', h1, h2, h3, h4⟩ := amongK_pos hp (Nat.min_le_right _ _) hy
              rw [h4] at e2
              have := secN_inj (f := f) (by exact_mod_cast e2)
              subst this
              rw [hf] at h3
              cases h3), (ih p hpr).2 (by omega)]
            rfl
          | some y =>
            have hy := mem_amongK (e := e) (f := f) (fr := 7 * i) (k := min (7 * i + 7) (roomN n)) (p := p) (by omega) (by omega) hf
            have h1 := foldE_mem q _ (newDt (recT d (newX f n) i).1) (amongK_pair hp (Nat.min_le_right _ _)) (fun z hz => by
              obtain ⟨p', h1, h2, h3, h4⟩ := amongK_pos hp (Nat.min_le_right _ _) hz
              rw [h4]
              exact (ih p' (by omega)).2 (by omega)) y hy
            rw [hp p y hpr hf] at h1
            rw [h1]
            rfl
      · rw [foldE_other q _ _ _ (hout (.inr (by omega)))]
        exact (ih p hpr).2 (by omega)
/-- The entries that a cache has when it is opened. -/
theorem recall_find {d : DevD} {T : Nat → ByteArray} {e : List EnD} {f n : Nat} (hp : Placed e f n) (hT : ∀ g, g < groups n → tellD d (1, ((secN f (7 * g) - 1 : Nat) : Int)) = T (secN f (7 * g) - 1)) (hL : ∀ g, g < groups n → LogIs T e f n g) :
    (∀ p, p < roomN n → findS (recX d (newX f n)).e (secN f p) = findS e (secN f p)) ∧ ∀ k y, findS (recX d (newX f n)).e k = some y → y.pos = k ∧ MayC y := by
  refine ⟨fun p hpr => ?_, fun k y h => merged_may _ k y h⟩
  show findS (putAll [] (mergeL (recT d (newX f n) (groups n)).1)) (secN f p) = _
  rw [merged_find]
  refine (rec_told hp hT hL (groups n) (Nat.le_refl _) p hpr).1 ?_
  unfold groups
  omega
theorem fmap_cong {α β : Type} {F G : α → Option β} : ∀ l : List α, (∀ x ∈ l, F x = G x) → l.filterMap F = l.filterMap G
  | [], _ => rfl
  | a :: r, h => by rw [List.filterMap_cons, List.filterMap_cons, h a List.mem_cons_self, fmap_cong r (fun x hx => h x (List.mem_cons_of_mem _ hx))]
theorem amongK_cong {e1 e2 : List EnD} {f fr k : Nat} (h : ∀ p, fr ≤ p → p < k → findS e1 (secN f p) = findS e2 (secN f p)) : amongK e1 f fr k = amongK e2 f fr k := by
  unfold amongK
  apply fmap_cong
  intro p hp
  rw [List.mem_range'_1] at hp
  exact h p (by omega) (by omega)
theorem entOf_cong {x y : SecD} (hf : x.f = y.f) (hn : x.n = y.n) (h : ∀ p, p < roomN x.n → findS x.e (secN x.f p) = findS y.e (secN x.f p)) (key : ByteArray) : entOf x key = entOf y key := by
  unfold entOf
  rw [← hf, ← hn, amongK_cong (fun p _ hp => h p hp)]
end Go.Proofs.YtopinlnjdgedeaaDoor
