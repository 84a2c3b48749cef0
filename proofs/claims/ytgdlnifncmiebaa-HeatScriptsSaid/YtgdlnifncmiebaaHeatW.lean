/-
  The reference's heat beside other things; scripts as plain data.
-/
import Derived.Test.YtgdlnifncmiebaaHeatV
namespace Go.Proofs.Ytgdlnifncmiebaa
open Go.RowKit Go.ChangeShapes Go.WideShapes Go.ChangeAt

section
variable {B : Nat} {P : List Nat → World → Prop} (hP : Fixed P) {b : Nat} {l : List MkD} {w : World} (h : Sep B P (RefF b l) w)
include hP h
theorem one_rtouch (k : ByteArray) (now : Int) (hok : OkM l) (hn : In64 now) : Calls Try.prog 12 #[.pointer (some ⟨b, 0, none⟩), .string k, .int .i64 now] w fun e w' => e = .returned (.tuple #[]) ∧ Sep B P (RefF b (touchM l k now)) w' ∧ Below B w w' := by
  obtain ⟨hz, G, F, h1, ⟨v, h2, rfl⟩, h3, h4⟩ := id h
  refine (rtouch b v l k now w h2 hok hn).mono ?_
  rintro e w' ⟨rfl, F', k1, k2, k3⟩
  refine ⟨rfl, ⟨Nat.le_trans hz k2.size, G, F', hP.keep _ _ _ _ h1 k2 (fun i hi hf => (h3 i hf).2 hi), k1, fun i hi => ?_, h4⟩, k2.below hz (fun i hi => (h3 i hi).1)⟩
  rcases k3 i hi with h5 | h5
  · exact h3 i h5
  · exact ⟨Nat.le_trans hz h5, fun hg => by have := hP.lt _ _ h1 i hg; omega⟩
theorem one_rforget (k : ByteArray) (hlen : l.length ≤ 90000) : Calls Try.prog 14 #[.pointer (some ⟨b, 0, none⟩), .string k] w fun e w' => e = .returned (.tuple #[]) ∧ Sep B P (RefF b (forgetM l k)) w' ∧ Below B w w' := by
  obtain ⟨hz, G, F, h1, ⟨v, h2, rfl⟩, h3, h4⟩ := id h
  refine (rforget b v l k w h2 hlen).mono ?_
  rintro e w' ⟨rfl, F', k1, k2, k3⟩
  refine ⟨rfl, ⟨Nat.le_trans hz k2.size, G, F', hP.keep _ _ _ _ h1 k2 (fun i hi hf => (h3 i hf).2 hi), k1, fun i hi => ?_, h4⟩, k2.below hz (fun i hi => (h3 i hi).1)⟩
  rcases k3 i hi with h5 | h5
  · exact h3 i h5
  · exact ⟨Nat.le_trans hz h5, fun hg => by have := hP.lt _ _ h1 i hg; omega⟩
end
/-- A block of the call's own. -/
def BoxF (p : Nat) (t : TypeId) (cs : Array Value) (G : List Nat) (w : World) : Prop := Box w p t cs ∧ G = [p]
theorem fixed_boxf (p : Nat) (t : TypeId) (cs : Array Value) : Fixed (BoxF p t cs) := by
  refine ⟨?_, ?_⟩
  · rintro G S w1 w2 ⟨h, rfl⟩ hc hn
    exact ⟨h.of (hc.block p h.lt (hn p (by simp))), rfl⟩
  · rintro G w ⟨h, rfl⟩ k hk
    rw [List.mem_singleton] at hk
    rw [hk]
    exact h.lt
theorem Sep.turn {B : Nat} {P R X Q : List Nat → World → Prop} {w : World} (h : Sep B (Both (Both P R) X) Q w) : Sep B (Both (Both P X) R) Q w := by
  obtain ⟨hz, G, F, ⟨G12, G3, rfl, ⟨G1, G2, rfl, h1, h2, hd⟩, h3, hd2⟩, hq, hf, hlo⟩ := h
  refine ⟨hz, (G1 ++ G3) ++ G2, F, ⟨G1 ++ G3, G2, rfl, ⟨G1, G3, rfl, h1, h3, fun k hk h3 => hd2 k (by simp [hk]) h3⟩, h2, fun k hk hk2 => ?_⟩, hq, fun k hk => ⟨(hf k hk).1, fun hm => (hf k hk).2 ?_⟩, fun k hk => hlo k ?_⟩
  · rcases List.mem_append.1 hk with h | h
    · exact hd k h hk2
    · exact hd2 k (by simp [hk2]) h
  · simp only [List.mem_append] at hm ⊢
    rcases hm with (h | h) | h
    · exact .inl (.inl h)
    · exact .inr h
    · exact .inl (.inr h)
  · simp only [List.mem_append] at hk ⊢
    rcases hk with (h | h) | h
    · exact .inl (.inl h)
    · exact .inr h
    · exact .inl (.inr h)
theorem Sep.less {B : Nat} {P R X Q : List Nat → World → Prop} {w : World} (h : Sep B (Both (Both P X) R) Q w) : Sep B (Both P R) Q w := by
  obtain ⟨hz, G, F, ⟨G12, G3, rfl, ⟨G1, G2, rfl, h1, h2, hd⟩, h3, hd2⟩, hq, hf, hlo⟩ := h
  refine ⟨hz, G1 ++ G3, F, ⟨G1, G3, rfl, h1, h3, fun k hk => hd2 k (by simp [hk])⟩, hq, fun k hk => ⟨(hf k hk).1, fun hm => (hf k hk).2 ?_⟩, fun k hk => hlo k ?_⟩
  · simp only [List.mem_append] at hm ⊢
    rcases hm with h | h
    · exact .inl (.inl h)
    · exact .inr h
  · simp only [List.mem_append] at hk ⊢
    rcases hk with h | h
    · exact .inl (.inl h)
    · exact .inr h
theorem Sep.boxed {B p : Nat} {t : TypeId} {cs : Array Value} {P R Q : List Nat → World → Prop} {w : World} (h : Sep B (Both (Both P (BoxF p t cs)) R) Q w) : Box w p t cs := by
  obtain ⟨_, _, _, ⟨_, _, _, ⟨_, _, _, _, ⟨hb, _⟩, _⟩, _⟩, _⟩ := h
  exact hb

/-- What a script's calls make of the counts. -/
def stepS (l : List MkD) (x : OpH) : List MkD := if x.1 = 0 then touchM l x.2.1 x.2.2.1 else if x.1 = 1 then forgetM l x.2.1 else l
def runS (s : List OpH) : List MkD := s.foldl stepS []
theorem runs_snoc (s : List OpH) (x : OpH) : runS (s ++ [x]) = stepS (runS s) x := by unfold runS; rw [List.foldl_append]; rfl
theorem step_len (l : List MkD) (x : OpH) : (stepS l x).length ≤ l.length + 1 := by
  unfold stepS
  split
  · exact touch_len _ _
  · split
    · exact Nat.le_trans (forget_le _ _) (Nat.le_succ _)
    · exact Nat.le_succ _
theorem step_ok {l : List MkD} (h : OkM l) {x : OpH} (hx : In64 x.2.2.1) (hl : l.length < 80000) : OkM (stepS l x) := by
  unfold stepS
  split
  · exact touch_ok h _ hx hl
  · split
    · exact forget_ok h _
    · exact h
theorem runs_go : ∀ (s : List OpH) (l : List MkD), OkM l → OkS s → l.length + s.length ≤ 9000 → OkM (s.foldl stepS l) ∧ (s.foldl stepS l).length ≤ l.length + s.length
  | [], _, h, _, _ => ⟨h, Nat.le_refl _⟩
  | x :: r, l, h, hs, hl => by
    have h2 := step_len l x
    simp only [List.length_cons] at hl
    obtain ⟨h3, h4⟩ := runs_go r (stepS l x) (step_ok h (hs x (by simp)).2 (by omega)) (fun y hy => hs y (List.mem_cons_of_mem _ hy)) (by omega)
    refine ⟨h3, ?_⟩
    show (r.foldl stepS (stepS l x)).length ≤ _
    simp only [List.length_cons]
    omega
theorem runs_ok {s : List OpH} (hs : OkS s) (hl : s.length ≤ 9000) : OkM (runS s) ∧ (runS s).length ≤ s.length := by
  have := runs_go s [] nil_ok hs (by simpa using hl)
  simpa [runS] using this
end Go.Proofs.Ytgdlnifncmiebaa
