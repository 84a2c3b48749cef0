/-
  What was put is found, what was taken away is not, others are as they were.
-/
import Derived.Test.YtlkkgboaicjaiaaNodeS
namespace Go.Proofs.Ytlkkgboaicjaiaa
open Go.RowKit Go.ChangeShapes Go.WideShapes Go.ChangeAt

theorem isK_mem {E : List Ent} (h : OkL E) (o : ByteArray) : isK (E.map (·.1)) o = true ↔ ∃ x ∈ E, x.1 = o := by
  obtain ⟨A, M, B, rfl, ha, hb, hm⟩ := up_cut o E h.up
  rw [is_cut ha hb hm]
  rcases hm with rfl | ⟨v, rfl⟩
  · simp only [List.isEmpty_nil, Bool.not_true, List.nil_append, List.mem_append]
    constructor
    · intro h; cases h
    · rintro ⟨x, hx | hx, e⟩
      · exact absurd e (ltK_ne (ha x hx))
      · exact absurd e.symm (ltK_ne (hb x hx))
  · simp only [List.isEmpty_cons, Bool.not_false, true_iff]
    exact ⟨(o, v), by simp, rfl⟩
structure FoundD (d X Y : NodeD) (key val other : ByteArray) : Prop where
  is : (findD X key).2 = true
  at_ : X.vals[(findD X key).1]? = some val
  no : (findD Y key).2 = false
  same1 : (findD X other).2 = (findD d other).2
  same2 : (findD Y other).2 = (findD d other).2
theorem find_snd {b : Bool} {E : List Ent} (h : OkL E) (hl : E.length ≤ 255) (o : ByteArray) : (findD (ofE b E) o).2 = isK (E.map (·.1)) o := by
  have hm := (may_iff b E).2 ⟨h, hl⟩
  unfold findD
  rw [if_pos hm]
  show (if isK (E.map (·.1)) o = true then _ else _ : Nat × Bool).2 = _
  cases isK (E.map (·.1)) o <;> rfl
theorem found {d : NodeD} {key val other : ByteArray} (hm : mayD d = true) (hk : okE key val = true) (hne : other ≠ key) (hl : d.keys.length ≤ 100) : FoundD d (withD d key val) (withoutD (withD d key val) key) key val other := by
  obtain ⟨E, e, ho, _⟩ := may_of hm
  have hlE : E.length ≤ 100 := by rw [e] at hl; simpa [ofE] using hl
  obtain ⟨A, M, B, eE, ha, hb, hM⟩ := up_cut key E ho.up
  have hAB : OkL (A ++ B) := ho.part (by rw [eE]; exact List.Sublist.append_left (List.sublist_append_right _ _) _)
  have hlen : A.length + M.length + B.length ≤ 100 := by rw [eE] at hlE; simp only [List.length_append] at hlE; omega
  have hX : OkL (A ++ ([(key, val)] ++ B)) := by
    constructor
    · have hu := hAB.up
      unfold Up at hu ⊢
      rw [List.map_append, List.pairwise_append] at hu
      rw [List.map_append, List.pairwise_append]
      refine ⟨hu.1, ?_, ?_⟩
      · show List.Pairwise _ (key :: B.map (·.1))
        refine List.pairwise_cons.2 ⟨fun a h => ?_, hu.2.1⟩
        obtain ⟨x, hx, rfl⟩ := List.mem_map.1 h
        exact hb x hx
      · intro a h1 c h2
        obtain ⟨x, hx, rfl⟩ := List.mem_map.1 h1
        have h2' : c ∈ key :: B.map (·.1) := h2
        rcases List.mem_cons.1 h2' with rfl | h3
        · exact ha x hx
        · exact hu.2.2 _ h1 _ h3
    · intro x hx
      rcases List.mem_append.1 hx with h1 | h1
      · exact hAB.ok x (List.mem_append.2 (.inl h1))
      · rcases List.mem_append.1 h1 with h2 | h2
        · rw [List.mem_singleton] at h2; subst h2; exact hk
        · exact hAB.ok x (List.mem_append.2 (.inr h2))
  have eX : withD d key val = ofE d.leaf (A ++ ([(key, val)] ++ B)) := by
    conv => lhs; rw [e]
    rw [with_eq ho (by omega) key val hk, eE, drop_cut ha hb hM, ins_cut hb A ha]; rfl
  have hlX : (A ++ ([(key, val)] ++ B)).length ≤ 255 := by simp only [List.length_append, List.length_singleton]; omega
  have hlY : (A ++ B).length ≤ 255 := by simp only [List.length_append]; omega
  have eY : withoutD (withD d key val) key = ofE d.leaf (A ++ B) := by
    rw [eX, without_eq hX hlX, drop_cut ha hb (.inr ⟨val, rfl⟩)]
  rw [eX] at eY ⊢
  rw [eY]
  have hik : isK ((A ++ ([(key, val)] ++ B)).map (·.1)) key = true := by rw [is_cut ha hb (.inr ⟨val, rfl⟩)]; rfl
  have hat : (findD (ofE d.leaf (A ++ ([(key, val)] ++ B))) key).1 = A.length := by
    unfold findD
    rw [if_pos ((may_iff _ _).2 ⟨hX, hlX⟩)]
    show (if isK ((A ++ ([(key, val)] ++ B)).map (·.1)) key = true then (cntK ((A ++ ([(key, val)] ++ B)).map (·.1)) key, true) else _ : Nat × Bool).1 = _
    rw [if_pos hik]
    exact cnt_cut ha hb (.inr ⟨val, rfl⟩)
  have hde : (findD d other).2 = isK (E.map (·.1)) other := by
    conv => lhs; rw [e]
    exact find_snd ho (by omega) other
  have hmem : ∀ E1 : List Ent, OkL E1 → ((∃ x ∈ E1, x.1 = other) ↔ ∃ x ∈ E, x.1 = other) → isK (E1.map (·.1)) other = isK (E.map (·.1)) other := fun E1 h1 h2 => by
    have a1 := isK_mem h1 other
    have a2 := isK_mem ho other
    rw [Bool.eq_iff_iff, a1, a2, h2]
  have hMo : ∀ x ∈ M, x.1 ≠ other := fun x hx => by
    rcases hM with rfl | ⟨v, rfl⟩
    · cases hx
    · rw [List.mem_singleton] at hx; subst hx; exact fun e => hne e.symm
  refine ⟨by rw [find_snd hX hlX]; exact hik, ?_, ?_, ?_, ?_⟩
  · rw [hat]
    show ((A ++ ([(key, val)] ++ B)).map (·.2))[A.length]? = _
    rw [List.map_append, List.getElem?_append_right (by simp)]
    simp
  · rw [find_snd hAB hlY]
    have := is_cut ha hb (.inl (rfl : ([] : List Ent) = []))
    rw [List.nil_append] at this
    rw [this]; rfl
  · rw [find_snd hX hlX, hde]
    refine hmem _ hX ?_
    rw [eE]
    constructor
    · rintro ⟨x, hx, hxo⟩
      rcases List.mem_append.1 hx with h1 | h1
      · exact ⟨x, List.mem_append.2 (.inl h1), hxo⟩
      · rcases List.mem_append.1 h1 with h2 | h2
        · rw [List.mem_singleton] at h2; subst h2; exact absurd hxo.symm hne
        · exact ⟨x, List.mem_append.2 (.inr (List.mem_append.2 (.inr h2))), hxo⟩
    · rintro ⟨x, hx, hxo⟩
      rcases List.mem_append.1 hx with h1 | h1
      · exact ⟨x, List.mem_append.2 (.inl h1), hxo⟩
      · rcases List.mem_append.1 h1 with h2 | h2
        · exact absurd hxo (hMo x h2)
        · exact ⟨x, List.mem_append.2 (.inr (List.mem_append.2 (.inr h2))), hxo⟩
  · rw [find_snd hAB hlY, hde]
    refine hmem _ hAB ?_
    rw [eE]
    constructor
    · rintro ⟨x, hx, hxo⟩
      rcases List.mem_append.1 hx with h1 | h1
      · exact ⟨x, List.mem_append.2 (.inl h1), hxo⟩
      · exact ⟨x, List.mem_append.2 (.inr (List.mem_append.2 (.inr h1))), hxo⟩
    · rintro ⟨x, hx, hxo⟩
      rcases List.mem_append.1 hx with h1 | h1
      · exact ⟨x, List.mem_append.2 (.inl h1), hxo⟩
      · rcases List.mem_append.1 h1 with h2 | h2
        · exact absurd hxo (hMo x h2)
        · exact ⟨x, List.mem_append.2 (.inr h2), hxo⟩
end Go.Proofs.Ytlkkgboaicjaiaa
