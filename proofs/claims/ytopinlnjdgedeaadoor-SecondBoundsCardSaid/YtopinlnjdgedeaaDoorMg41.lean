/-
  Texts put together: SeW, SeX, SeY.
-/
import Derived.Test.YtopinlnjdgedeaaDoorSeV
namespace Go.Proofs.YtopinlnjdgedeaaDoor
open Go Go.RowKit

theorem new_has (N k : Nat) : hasAt (newD 4 N) (1, (k : Int)) = ⟨#[]⟩ := by
  unfold hasAt sideOf newD newS
  simp only [show ((1 : Int) = 0) = False from by simp, if_false]
  rw [List.getD, List.getElem?_replicate]
  split <;> rfl
theorem new_tell (N : Nat) (l : Int × Int) : tellD (newD 4 N) l = ⟨#[]⟩ := by
  unfold tellD
  split
  · unfold sideOf newD newS
    split
    · rw [List.getD, List.getElem?_replicate]
      split <;> rfl
    · rw [List.getD, List.getElem?_replicate]
      split <;> rfl
  · rfl
theorem new_size (N : Nat) : devSize (newD 4 N) 1 = N := by
  unfold devSize newD newS
  simp
theorem decC_none : decC ⟨#[]⟩ = ((0, []), 2) := if_pos (by decide)
theorem recT_none {d : DevD} {x : SecD} : ∀ i, (∀ g, g < i → (readX d x (7 * g)).1 = false) → recT d x i = ([], x)
  | 0, _ => rfl
  | i + 1, h => by
    rw [recT_succ, recS_no (h i (Nat.lt_succ_self i)), recT_none i (fun g hg => h g (by omega))]
theorem merge_none : mergeL [] = [] := by
  rw [mergeL_eq]
  unfold keysD newDt
  simp
theorem rec_new {d : DevD} {f n : Nat} (h : ∀ l, tellD d l = ⟨#[]⟩) : recX d (newX f n) = newX f n := by
  unfold recX
  rw [recT_none]
  · rw [merge_none]
    rfl
  · intro g _
    rw [readX_err (q := ((0, []), 2)) (by rw [h]; exact decC_none) (by decide)]
theorem FdS.start (F : FedL) {f n N : Nat} (hN : 1 ≤ N ∧ N ≤ 512) (h2 : 2 ≤ n) : FdS F f n N 0 (newD 4 N) (newX f n) := by
  have he : ∀ k, effK (newD 4 N) k = ⟨#[]⟩ := fun k => new_has N k
  have hp : ∀ k, perK (newD 4 N) k = ⟨#[]⟩ := fun k => new_has N k
  refine ⟨rfl, rfl, rfl, (Nat.zero_mod _).symm, Nat.le_refl _, fun k y h => (by cases h), ⟨new_size N, rfl, fun x h => (by cases h)⟩, Nat.zero_le _, fun p _ => rfl, fun p i _ h => (by cases h), fun g _ => .inl ⟨he _, fun p _ _ => rfl⟩, [], fun p y _ h => (by cases h), fun g _ => .inl ⟨hp _, fun p _ _ => rfl⟩⟩

/-- Find, where the entries are some of those that were fed. -/
theorem find_sub {F : FedL} {f n N c : Nat} {d D : DevD} {x x' : SecD} (h : FdS F f n N c d x) (hF : FedOk F) (hc : c ≤ F.length) (hfn : f + n ≤ N) (hN : N ≤ 512) (h2 : 2 ≤ n) (hf' : x'.f = f) (hn' : x'.n = n)
    (hs : ∀ p y, p < roomN n → findS x'.e (secN f p) = some y → findS x.e (secN f p) = some y) (hD : devSize D 1 = N ∧ devLost D 1 = false)
    (hT : ∀ p i, p < roomN n → idxR (roomN n) c p = some i → tellD D (1, ((secN f p : Nat) : Int)) = txtF F i) {i : Nat} (hi : i < F.length) :
    (findX D x' (keyF F i) = ((txtF F i, true), x') ∧ ∃ p, p < roomN n ∧ idxR (roomN n) c p = some i) ∨ (findX D x' (keyF F i) = ((⟨#[]⟩, false), x') ∧ ∀ p, p < roomN n → idxR (roomN n) c p = some i → findS x'.e (secN f p) ≠ findS x.e (secN f p)) := by
  cases he : entOf x' (keyF F i) with
  | none =>
    right
    refine ⟨findX_none he, fun p hp hidx e => ?_⟩
    have hmk := h.ent p hp
    rw [hidx] at hmk
    rw [hmk] at e
    have hmem := mem_amongK (e := x'.e) (f := x'.f) (fr := 0) (k := roomN x'.n) (p := p) (Nat.zero_le _) (by rw [hn']; exact hp) (by rw [hf']; exact e)
    unfold entOf at he
    rw [List.find?_eq_none] at he
    have := he _ hmem
    simp [mkE] at this
  | some y =>
    left
    obtain ⟨hk, p, hp, hy⟩ := entOf_some he
    rw [hn'] at hp
    rw [hf'] at hy
    obtain ⟨_, j, hj, e, hidx⟩ := h.may hF hc (by omega) h2 hp (hs p y hp hy)
    subst e
    have hij : j = i := hF.apart j i (by omega) hi hk
    subst hij
    have ht := hT p j hp hidx
    refine ⟨?_, p, hp, hidx⟩
    have hsl := secN_lt (f := f) hp
    have := findX_yes (d := D) he ⟨?_, ?_, ?_⟩
    · rw [this]
      show ((tellD D (1, ((secN f p : Nat) : Int)), true), x') = _
      rw [ht]
    · show chkD D (1, ((secN f p : Nat) : Int)) 0 = 0
      unfold chkD
      rw [if_neg, hD.2]
      · rfl
      · rw [hD.1]
        simp only
        omega
    · show ((tellD D (1, ((secN f p : Nat) : Int))).size : Int) = ((txtF F j).size : Int)
      rw [ht]
    · show sha (tellD D (1, ((secN f p : Nat) : Int))) = sha (txtF F j)
      rw [ht]
/-- Find, where the entries are just those that were fed. -/
theorem find_all {F : FedL} {f n N c : Nat} {d D : DevD} {x x' : SecD} (h : FdS F f n N c d x) (hF : FedOk F) (hc : c ≤ F.length) (hfn : f + n ≤ N) (hN : N ≤ 512) (h2 : 2 ≤ n) (hf' : x'.f = f) (hn' : x'.n = n)
    (hs : ∀ p, p < roomN n → findS x'.e (secN f p) = findS x.e (secN f p)) (hD : devSize D 1 = N ∧ devLost D 1 = false)
    (hT : ∀ p i, p < roomN n → idxR (roomN n) c p = some i → tellD D (1, ((secN f p : Nat) : Int)) = txtF F i) {i : Nat} (hi : i < c) :
    findX D x' (keyF F i) = if c ≤ i + roomN n then ((txtF F i, true), x') else ((⟨#[]⟩, false), x') := by
  rcases find_sub h hF hc hfn hN h2 hf' hn' (fun p y hp hy => by rw [← hs p hp]; exact hy) hD hT (i := i) (by omega) with ⟨h1, p, hp, hidx⟩ | ⟨h1, h3⟩
  · rw [h1, if_pos (idxR_lt (room_pos h2) hidx).2.2]
  · rw [h1, if_neg]
    intro e
    exact h3 (i % roomN n) (Nat.mod_lt _ (room_pos h2)) (idxR_is (room_pos h2) hi e) (hs _ (Nat.mod_lt _ (room_pos h2)))
/-- Opened again behind a flush. -/
theorem open_flushed {F : FedL} {f n N c : Nat} {d : DevD} {x : SecD} (h : FdS F f n N c d x) (hfn : f + n ≤ N) (hN : N ≤ 512) : 
    (∀ p, p < roomN n → findS (recX (flushD d) (newX f n)).e (secN f p) = findS x.e (secN f p)) ∧ (∀ k y, findS (recX (flushD d) (newX f n)).e k = some y → y.pos = k ∧ MayC y) ∧
    (∀ p i, p < roomN n → idxR (roomN n) c p = some i → tellD (flushD d) (1, ((secN f p : Nat) : Int)) = txtF F i) := by
  have ht : ∀ k, k < N → tellD (flushD d) (1, (k : Int)) = effK d k := fun k hk => tell_flush h.dv hk
  obtain ⟨h1, h2⟩ := recall_find (d := flushD d) h.placed (fun g hg => ht _ (by rw [lsec_eq]; unfold groups roomN at hg; omega)) h.logE
  exact ⟨h1, h2, fun p i hp hi => by rw [ht _ (by have := secN_lt (f := f) hp; omega)]; exact (h.txt p i hp hi).1⟩
/-- Opened again behind a crash. -/
theorem open_crashed {F : FedL} {f n N c : Nat} {d : DevD} {x : SecD} (h : FdS F f n N c d x) (hfn : f + n ≤ N) (hN : N ≤ 512) (keep : List Bool) : 
    (∀ p y, p < roomN n → findS (recX (crashD d keep) (newX f n)).e (secN f p) = some y → findS x.e (secN f p) = some y) ∧ (∀ k y, findS (recX (crashD d keep) (newX f n)).e k = some y → y.pos = k ∧ MayC y) ∧
    (∀ p i, p < roomN n → idxR (roomN n) c p = some i → tellD (crashD d keep) (1, ((secN f p : Nat) : Int)) = txtF F i) := by
  have hlog : ∀ g, g < groups n → secN f (7 * g) - 1 < N := fun g hg => by rw [lsec_eq]; unfold groups roomN at hg; omega
  have hplc : ∀ p, p < roomN n → secN f p < N := fun p hp => by have := secN_lt (f := f) hp; omega
  rcases tell_crash h.dv h.few keep with ht | ht
  · obtain ⟨e', he, hl⟩ := h.logP
    obtain ⟨h1, h2⟩ := recall_find (d := crashD d keep) (T := perK d) (e := e') (f := f) (n := n) (fun p y hp hy => h.placed p y hp (he p y hp hy)) (fun g hg => ht _ (hlog g hg)) hl
    exact ⟨fun p y hp hy => he p y hp (by rw [← h1 p hp]; exact hy), h2, fun p i hp hi => by rw [ht _ (hplc p hp)]; exact (h.txt p i hp hi).2.1⟩
  · obtain ⟨h1, h2⟩ := recall_find (d := crashD d keep) h.placed (fun g hg => ht _ (hlog g hg)) h.logE
    exact ⟨fun p y hp hy => by rw [← h1 p hp]; exact hy, h2, fun p i hp hi => by rw [ht _ (hplc p hp)]; exact (h.txt p i hp hi).1⟩
end Go.Proofs.YtopinlnjdgedeaaDoor

namespace Go.Proofs.YtopinlnjdgedeaaDoor
open Go Go.RowKit

structure Tiny (d : DevD) : Prop where
  h0 : ∀ s ∈ d.s0.has, s.size ≤ 1024
  t0 : ∀ s ∈ d.s0.tells, s.size ≤ 1024
  h1 : ∀ s ∈ d.s1.has, s.size ≤ 1024
  t1 : ∀ s ∈ d.s1.tells, s.size ≤ 1024
  w : ∀ x ∈ d.waits, x.2.size ≤ 1024
theorem getD_tiny {l : List ByteArray} (h : ∀ s ∈ l, s.size ≤ 1024) (k : Nat) : (l.getD k ⟨#[]⟩).size ≤ 1024 := by
  rw [List.getD]
  cases e : l[k]? with
  | none => show (0 : Nat) ≤ 1024; omega
  | some v => exact h v (List.mem_of_getElem? e)
theorem Tiny.tell {d : DevD} (h : Tiny d) (l : Int × Int) : (tellD d l).size ≤ 1024 := by
  unfold tellD
  split
  · unfold sideOf
    split
    · exact getD_tiny h.t0 _
    · exact getD_tiny h.t1 _
  · show (0 : Nat) ≤ 1024
    omega
theorem set_tiny {l : List ByteArray} (h : ∀ s ∈ l, s.size ≤ 1024) (k : Nat) {t : ByteArray} (ht : t.size ≤ 1024) : ∀ s ∈ l.set k t, s.size ≤ 1024 := fun s hs => by
  rcases List.mem_or_eq_of_mem_set hs with h1 | h1
  · exact h s h1
  · rw [h1]; exact ht
theorem Tiny.setTell {d : DevD} (h : Tiny d) (l : Int × Int) {t : ByteArray} (ht : t.size ≤ 1024) : Tiny (setTell d l t) := by
  unfold Go.Proofs.YtopinlnjdgedeaaDoor.setTell
  split
  · exact ⟨h.h0, set_tiny h.t0 _ ht, h.h1, h.t1, h.w⟩
  · exact ⟨h.h0, h.t0, h.h1, set_tiny h.t1 _ ht, h.w⟩
theorem Tiny.setHas {d : DevD} (h : Tiny d) (l : Int × Int) {t : ByteArray} (ht : t.size ≤ 1024) : Tiny (setHas d l t) := by
  unfold Go.Proofs.YtopinlnjdgedeaaDoor.setHas
  split
  · exact ⟨set_tiny h.h0 _ ht, h.t0, h.h1, h.t1, h.w⟩
  · exact ⟨h.h0, h.t0, set_tiny h.h1 _ ht, h.t1, h.w⟩
theorem Tiny.waits {d : DevD} (h : Tiny d) {ws : List WrD} (hw : ∀ x ∈ ws, x.2.size ≤ 1024) : Tiny { d with waits := ws } := ⟨h.h0, h.t0, h.h1, h.t1, hw⟩
theorem Tiny.write {d : DevD} (h : Tiny d) (l : Int × Int) (t : ByteArray) : Tiny (writeD d l t) := by
  unfold writeD
  split
  · next hc =>
    have ht := (chkD_ok hc).2.2.2.1
    refine (h.setTell l ht).waits (fun x hx => ?_)
    rcases List.mem_append.1 hx with h1 | h1
    · exact h.w x h1
    · rw [List.mem_singleton.1 h1]; exact ht
  · exact h
theorem Tiny.fold : ∀ (ws : List WrD) {d : DevD}, Tiny d → (∀ x ∈ ws, x.2.size ≤ 1024) → Tiny (foldHas d ws)
  | [], _, h, _ => h
  | x :: r, _, h, hw => Tiny.fold r (h.setHas x.1 (hw x List.mem_cons_self)) (fun y hy => hw y (List.mem_cons_of_mem _ hy))
theorem Tiny.endT {d : DevD} (h : Tiny d) (k : Nat) : Tiny (endT d k) := by
  refine ⟨?_, ?_, ?_, ?_, h.w⟩
  · unfold Go.Proofs.YtopinlnjdgedeaaDoor.endT; simp only; split
    · exact h.h0
    · exact h.h0
  · unfold Go.Proofs.YtopinlnjdgedeaaDoor.endT; simp only; split
    · exact h.h0
    · exact h.t0
  · unfold Go.Proofs.YtopinlnjdgedeaaDoor.endT; simp only; split
    · exact h.h1
    · exact h.h1
  · unfold Go.Proofs.YtopinlnjdgedeaaDoor.endT; simp only; split
    · exact h.h1
    · exact h.t1
theorem Tiny.ends {d : DevD} (h : Tiny d) {ws : List WrD} (hw : ∀ x ∈ ws, x.2.size ≤ 1024) : Tiny (endD d ws) :=
  ((Tiny.fold ws h hw).waits (fun x hx => by cases hx)).endT 2
theorem Tiny.flush {d : DevD} (h : Tiny d) : Tiny (flushD d) := h.ends h.w
theorem Tiny.crash {d : DevD} (h : Tiny d) (hf : d.waits.length ≤ 1) (keep : List Bool) : Tiny (crashD d keep) := by
  unfold crashD
  rcases kept_two d hf keep with e | e
  · rw [e]; exact h.ends (fun x hx => by cases hx)
  · rw [e]; exact h.ends h.w
theorem Tiny.feed {d : DevD} (h : Tiny d) (x : SecD) (key load : ByteArray) : Tiny (putD' d x key load) := ((((h.write _ _).flush).write _ _).flush).write _ _
theorem Tiny.new (m n : Nat) : Tiny (newD m n) := by
  have h : ∀ k, ∀ s ∈ (newS k).has, s.size ≤ 1024 := fun k s hs => by
    unfold newS at hs
    rw [List.eq_of_mem_replicate hs]
    show (0 : Nat) ≤ 1024
    omega
  have h2 : ∀ k, ∀ s ∈ (newS k).tells, s.size ≤ 1024 := fun k s hs => by
    unfold newS at hs
    rw [List.eq_of_mem_replicate hs]
    show (0 : Nat) ≤ 1024
    omega
  exact ⟨h m, h2 m, h n, h2 n, fun x hx => by cases hx⟩

theorem One.swapSc {B : Nat} {P : List Nat → World → Prop} {b s k : Nat} {d : DevD} {x y : SecD} {w : World} (h : One B (Both (Both P (ScF s b x)) (ScF k b y)) b d w) : One B (Both (Both P (ScF k b y)) (ScF s b x)) b d w := by
  obtain ⟨hz, F, G, h1, ⟨G1, G2, rfl, ⟨G3, G4, rfl, h2, h3, h4⟩, h5, h6⟩, h7, h8⟩ := h
  have hperm : ∀ i, i ∈ (G3 ++ G2) ++ G4 ↔ i ∈ (G3 ++ G4) ++ G2 := fun i => by
    simp only [List.mem_append]
    constructor <;> (rintro ((h | h) | h) <;> simp [h])
  refine ⟨hz, F, (G3 ++ G2) ++ G4, h1, ⟨G3 ++ G2, G4, rfl, ⟨G3, G2, rfl, h2, h5, fun i hi => h6 i (List.mem_append_left _ hi)⟩, h3, fun i hi hm => ?_⟩, fun i hi => ⟨(h7 i hi).1, fun hm => (h7 i hi).2 ((hperm i).1 hm)⟩, fun i hi => h8 i ((hperm i).1 hi)⟩
  rcases List.mem_append.1 hi with h9 | h9
  · exact h4 i h9 hm
  · exact h6 i (List.mem_append_right _ hm) h9
end Go.Proofs.YtopinlnjdgedeaaDoor

namespace Go.Proofs.YtopinlnjdgedeaaDoor
open Go Go.RowKit

def kB : ByteArray := ⟨#[107]⟩
def lB : ByteArray := ⟨#[108]⟩
def helloB : ByteArray := ⟨#[104, 101, 108, 108, 111]⟩
def otherB : ByteArray := ⟨#[111, 116, 104, 101, 114]⟩
def badB : ByteArray := ⟨#[104, 101, 108, 108, 79, 33]⟩
def LF : FedL := [(kB, helloB)]
theorem lf_ok : FedOk LF := by
  refine ⟨fun i hi => ?_, fun i j hi hj _ => ?_, by decide⟩
  · have : i = 0 := by simp [LF] at hi; exact hi
    subst this
    decide
  · simp [LF] at hi hj
    omega
def LX0 : SecD := newX 4 10
def LD0 : DevD := newD 4 20
def LD1 : DevD := putD' LD0 LX0 kB helloB
def LX1 : SecD := putX LX0 kB helloB
theorem lv_start : FdS LF 4 10 20 0 LD0 LX0 := FdS.start LF (by decide) (by decide)
theorem lv_rec : recX LD0 LX0 = LX0 := rec_new (new_tell 20)
theorem lv_feed : feedX LD0 LX0 kB helloB = (true, LD1, LX1) ∧ FdS LF 4 10 20 1 LD1 LX1 :=
  lv_start.step lf_ok (by decide) (by decide) (by decide) (by decide)
theorem lv_st : FdS LF 4 10 20 1 LD1 LX1 := lv_feed.2
theorem lv_room : roomN 10 = 8 := by decide
theorem lv_find {D : DevD} {x : SecD} (hf : x.f = 4) (hn : x.n = 10) (hs : ∀ p, p < roomN 10 → findS x.e (secN 4 p) = findS LX1.e (secN 4 p)) (hD : devSize D 1 = 20 ∧ devLost D 1 = false) (hT : ∀ p i, p < roomN 10 → idxR (roomN 10) 1 p = some i → tellD D (1, ((secN 4 p : Nat) : Int)) = txtF LF i) :
    findX D x kB = ((helloB, true), x) := by
  have := find_all lv_st lf_ok (by decide) (by decide) (by decide) (by decide) hf hn hs hD hT (i := 0) (by decide)
  rw [if_pos (by decide)] at this
  exact this
theorem lv_find1 : findX LD1 LX1 kB = ((helloB, true), LX1) :=
  lv_find lv_st.hf lv_st.hn (fun _ _ => rfl) ⟨lv_st.dv.size, lv_st.dv.lost⟩ (fun p i hp hi => (lv_st.txt p i hp hi).2.2)
theorem lv_ent : entOf LX1 kB = some (mkE LF 4 0 0) := by
  refine entOf_at (k := 0) (fun z hz => ?_) ?_ ?_ rfl
  · rw [amongK_none _ _ _ _ (Nat.le_refl 0)] at hz; cases hz
  · rw [lv_st.hn]; decide
  · rw [lv_st.hf]; exact lv_st.ent 0 (by decide)
theorem lv_other : feedX LD1 LX1 kB otherB = (true, LD1, LX1) :=
  feedX_has (fun h => h.elim (fun h => h (by decide)) (fun h => by rw [lv_st.dv.lost] at h; cases h)) (by rw [lv_ent]; rfl)
theorem lv_empty : feedX LD1 LX1 ⟨#[]⟩ ⟨#[120]⟩ = (false, LD1, LX1) := feedX_no (.inl (by decide))
theorem lv_findl : findX LD1 LX1 lB = ((⟨#[]⟩, false), LX1) := by
  refine findX_none (entOf_no (fun z hz => ?_))
  obtain ⟨p, _, h2, h3⟩ := amongK_mem hz
  rw [lv_st.hf, lv_st.hn] at *
  obtain ⟨_, i, h4, h5, _⟩ := lv_st.may lf_ok (by decide) (by decide) (by decide) h2 h3
  rw [h5]
  obtain rfl : i = 0 := by omega
  show kB ≠ lB
  decide
def LD2 : DevD := flushD LD1
def LXK : SecD := recX LD2 (newX 4 10)
theorem lk_f (d : DevD) (x : SecD) : (recX d x).f = x.f ∧ (recX d x).n = x.n := ⟨(recT_ok d x _).f, (recT_ok d x _).n⟩
theorem lv_findk : findX LD2 LXK kB = ((helloB, true), LXK) := by
  obtain ⟨h1, _, h3⟩ := open_flushed lv_st (by decide) (by decide)
  exact lv_find (lk_f _ _).1 (lk_f _ _).2 h1 ⟨lv_st.dv.flush.size, lv_st.dv.flush.lost⟩ h3
def LD3 : DevD := spoilD LD2 (1, 5) badB
def LXQ : SecD := { LXK with e := forgetS LXK.e 5 }
theorem lv_entk : entOf LXK kB = some (mkE LF 4 0 0) := by
  obtain ⟨h1, _, _⟩ := open_flushed lv_st (by decide) (by decide)
  rw [← lv_ent]
  refine entOf_cong ((lk_f _ _).1.trans lv_st.hf.symm) ((lk_f _ _).2.trans lv_st.hn.symm) (fun p hp => ?_) _
  have e1 : LXK.f = 4 := (lk_f _ _).1
  have e2 : LXK.n = 10 := (lk_f _ _).2
  change p < roomN LXK.n at hp
  change findS LXK.e (secN LXK.f p) = findS LX1.e (secN LXK.f p)
  rw [e1]
  rw [e2] at hp
  exact h1 p hp
theorem lv_dv2 : DvOk 20 LD2 := lv_st.dv.flush
theorem lv_bad : badB.size ≤ 1024 := by decide
theorem lv_chk3 : chkD LD2 (1, 5) badB.size = 0 := chk_fast lv_dv2 (k := 5) (by decide) lv_bad
theorem lv_size3 (dev : Int) : devSize LD3 dev = devSize LD2 dev ∧ devLost LD3 dev = devLost LD2 dev := by
  unfold LD3 spoilD
  rw [if_pos lv_chk3]
  exact ⟨by rw [size_setTell, size_setHas]; rfl, by rw [lost_setTell, lost_setHas]; rfl⟩
theorem lv_tell3 : tellD LD3 (1, 5) = badB := by
  unfold tellD
  rw [if_pos]
  · unfold LD3 spoilD
    rw [if_pos lv_chk3]
    show (List.set _ (5 : Int).toNat badB).getD (5 : Int).toNat ⟨#[]⟩ = badB
    have hl : LD2.s1.tells.length = 20 := by
      show LD2.s1.has.length = 20
      have h9 : devSize LD2 1 = 20 := lv_st.dv.flush.size
      exact h9
    rw [List.getD, List.getElem?_set_self]
    · rfl
    · show (5 : Nat) < LD2.s1.tells.length
      rw [hl]; decide
  · rw [chkD_congr _ _ (fun dev => (lv_size3 dev).1) (fun dev => (lv_size3 dev).2)]
    exact chk_fast lv_dv2 (k := 5) (by decide) (by decide)
set_option maxRecDepth 100000 in
theorem lv_findq : findX LD3 LXK kB = ((⟨#[]⟩, false), LXQ) := by
  have := findX_no (d := LD3) lv_entk (fun h => by
    have h2 := h.2.1
    have e : (mkE LF 4 0 0).pos = 5 := by decide
    rw [e, lv_tell3] at h2
    exact absurd h2 (by decide))
  exact this
set_option maxRecDepth 100000 in
theorem lv_len1 : (amongK LX1.e LX1.f 0 (roomN LX1.n)).length = 1 := by
  rw [lv_st.hf, lv_st.hn]
  have : amongK LX1.e 4 0 (roomN 10) = (List.range' 0 (roomN 10 - 0)).filterMap (fun p => (idxR (roomN 10) 1 p).map (fun i => mkE LF 4 i p)) := by
    unfold amongK
    exact fmap_cong _ (fun p hp => by rw [List.mem_range'_1] at hp; exact lv_st.ent p (by omega))
  rw [this, lv_room]
  decide
set_option maxRecDepth 100000 in
theorem lv_len0 : (amongK LXQ.e LXQ.f 0 (roomN LXQ.n)).length = 0 := by
  rw [show LXQ.f = 4 from (lk_f _ _).1, show LXQ.n = 10 from (lk_f _ _).2]
  obtain ⟨h1, _, _⟩ := open_flushed lv_st (by decide) (by decide)
  have : amongK LXQ.e 4 0 (roomN 10) = (List.range' 0 (roomN 10 - 0)).filterMap (fun p => if p = 0 then none else (idxR (roomN 10) 1 p).map (fun i => mkE LF 4 i p)) := by
    unfold amongK
    refine fmap_cong _ (fun p hp => ?_)
    rw [List.mem_range'_1] at hp
    show findS (forgetS LXK.e 5) (secN 4 p) = _
    by_cases e : p = 0
    · subst e
      rw [if_pos rfl]
      exact sforget_same 5 _
    · rw [if_neg e, sforget_other (by unfold secN; omega), ← lv_st.ent p (by omega)]
      exact h1 p (by omega)
  rw [this, lv_room]
  decide
theorem lv_tiny1 : Tiny LD1 := (Tiny.new 4 20).feed _ _ _
theorem lv_tiny2 : Tiny LD2 := lv_tiny1.flush
theorem lv_tiny3 : Tiny LD3 := by
  unfold LD3 spoilD
  rw [if_pos lv_chk3]
  refine Tiny.setTell (Tiny.setHas ?_ _ (by decide)) _ (by decide)
  exact lv_tiny2.waits (fun x hx => by
    rw [show LD2.waits = [] from rfl] at hx
    cases hx)
theorem lv_posk : ∀ k y, findS LXK.e k = some y → y.pos = k ∧ 0 ≤ k ∧ k < 1000 := fun k y h => by
  obtain ⟨h1, h2⟩ := (open_flushed lv_st (by decide) (by decide)).2.1 k y h
  have := h2.2.2.2.2.2
  rw [h1] at this
  exact ⟨h1, this.1, by omega⟩
end Go.Proofs.YtopinlnjdgedeaaDoor
