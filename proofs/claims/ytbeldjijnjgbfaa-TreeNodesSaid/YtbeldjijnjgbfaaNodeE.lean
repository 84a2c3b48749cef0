/-
  A node's text, and the node of any text: plain data.
-/
import Derived.Test.YtbeldjijnjgbfaaMg0
import Derived.Test.YtbeldjijnjgbfaaMg2
namespace Go.Proofs.Ytbeldjijnjgbfaa
open Go.RowKit

def markB (b : Bool) : ByteArray := if b = true then ⟨#[76]⟩ else ⟨#[73]⟩
def txtB (k v : ByteArray) : ByteArray := textB k 2 ++ textB v 1
def encL : List ByteArray → List ByteArray → ByteArray
  | k :: ks, v :: vs => txtB k v ++ encL ks vs
  | _, _ => ⟨#[]⟩
def encD (d : NodeD) : ByteArray := (markB d.leaf ++ putB d.keys.length 1) ++ encL d.keys d.vals
def encR (d : NodeD) : ByteArray := if chkN d = 0 then encD d else ⟨#[]⟩

def entS (s : ByteArray) (p : Nat) : Ent := (valB s (p + 2) (valN s p 2), valB s (p + 2 + valN s p 2 + 1) (valN s (p + 2 + valN s p 2) 1))
def nextS (s : ByteArray) (p : Nat) : Nat := p + 2 + valN s p 2 + 1 + valN s (p + 2 + valN s p 2) 1
def posK (s : ByteArray) : Nat → Nat
  | 0 => 2
  | i + 1 => nextS s (posK s i)
def entsK (s : ByteArray) : Nat → List Ent
  | 0 => []
  | i + 1 => entsK s i ++ [entS s (posK s i)]
def rawD (s : ByteArray) : NodeD := ofE (decide (valB s 0 1 = ⟨#[76]⟩)) (entsK s (valN s 1 1))
def endK (s : ByteArray) : Nat := posK s (valN s 1 1)
def nilD : NodeD := ⟨false, [], []⟩
def decP (s : ByteArray) : NodeD × Int :=
  if s.size < endK s then (nilD, 2)
  else if endK s < s.size ∨ (valB s 0 1 ≠ ⟨#[76]⟩ ∧ valB s 0 1 ≠ ⟨#[73]⟩) ∨ chkN (rawD s) ≠ 0 then (nilD, 3) else (rawD s, 0)
def decR (s : ByteArray) : NodeD × Int :=
  if s.size < endK s then (nilD, 2) else if chkN (rawD s) ≠ 0 ∨ encD (rawD s) ≠ s then (nilD, 3) else (rawD s, 0)

theorem entsK_len (s : ByteArray) : ∀ n, (entsK s n).length = n
  | 0 => rfl
  | n + 1 => by rw [entsK, List.length_append, entsK_len s n]; rfl
theorem posK_ge (s : ByteArray) : ∀ n, 2 + 3 * n ≤ posK s n
  | 0 => Nat.le_refl _
  | n + 1 => by have := posK_ge s n; rw [posK, nextS]; omega
theorem posK_mono (s : ByteArray) (n m : Nat) (h : n ≤ m) : posK s n ≤ posK s m := by
  induction m with
  | zero => have : n = 0 := by omega
            subst this; exact Nat.le_refl _
  | succ m ih =>
    rcases Nat.lt_or_ge n (m + 1) with h1 | h1
    · have := ih (by omega); rw [posK, nextS]; omega
    · have : n = m + 1 := by omega
      subst this; exact Nat.le_refl _
theorem valB_size (s : ByteArray) (k n : Nat) : (valB s k n).size ≤ n := by
  unfold valB
  split
  · rw [ByteArray.size_extract]; omega
  · exact Nat.zero_le _
theorem valB_full (s : ByteArray) (k n : Nat) (h : k + n ≤ s.size) : (valB s k n).size = n := by
  unfold valB
  rw [if_pos h, ByteArray.size_extract]; omega
theorem valN_lt (s : ByteArray) (k n : Nat) : valN s k n < 256 ^ n := by
  have h1 := leVal_lt (valB s k n).data.toList
  have h2 := valB_size s k n
  have h3 : (valB s k n).data.toList.length = (valB s k n).size := by simp
  rw [h3] at h1
  exact Nat.lt_of_lt_of_le h1 (Nat.pow_le_pow_right (by omega) h2)
theorem text_bl (t : ByteArray) (w : Nat) (h1 : 1 ≤ w) (h7 : w ≤ 7) (h : t.size < 256 ^ w) : bl (textB t w) = leList t.size w ++ bl t := by
  unfold textB
  rw [if_neg, bl_append, putB_bl _ w h1 h7 h]
  unfold mostI
  rw [if_pos (by omega), Int.toNat_natCast]
  have : ((t.size : Nat) : Int) < ((256 ^ w : Nat) : Int) := by exact_mod_cast h
  rw [Int.natCast_pow] at this
  have h2 : ((256 : Nat) : Int) ^ w = (256 : Int) ^ w := rfl
  omega
theorem text_size (t : ByteArray) (w : Nat) (h1 : 1 ≤ w) (h7 : w ≤ 7) (h : t.size < 256 ^ w) : (textB t w).size = w + t.size := by
  rw [← bl_size, text_bl t w h1 h7 h, List.length_append, leList_length, bl_size]
theorem text_take (s : ByteArray) (p w : Nat) (h1 : 1 ≤ w) (h7 : w ≤ 7) (h : p + w + valN s p w ≤ s.size) : bl (textB (valB s (p + w) (valN s p w)) w) = vL (bl s) p (w + valN s p w) := by
  have hz := valB_full s (p + w) (valN s p w) h
  rw [text_bl _ w h1 h7 (by rw [hz]; exact valN_lt s p w), hz, valB_bl _ _ _ h]
  have h3 := put_val s p w h1 h7 (by omega)
  rw [putB_bl _ w h1 h7 (valN_lt s p w)] at h3
  rw [h3]
  unfold vL
  rw [← List.drop_drop, List.take_add]
theorem encL_snoc : ∀ (ks vs : List ByteArray) (k v : ByteArray), ks.length = vs.length → encL (ks ++ [k]) (vs ++ [v]) = encL ks vs ++ txtB k v
  | [], [], k, v, _ => by
    show txtB k v ++ encL [] [] = encL [] [] ++ txtB k v
    apply bl_ext
    rw [bl_append, bl_append]
    show _ ++ bl ⟨#[]⟩ = bl ⟨#[]⟩ ++ _
    simp [bl]
  | a :: ks, b :: vs, k, v, h => by
    show txtB a b ++ encL (ks ++ [k]) (vs ++ [v]) = (txtB a b ++ encL ks vs) ++ txtB k v
    rw [encL_snoc ks vs k v (by simpa using h), ByteArray.append_assoc]
  | [], _ :: _, _, _, h => by simp at h
  | _ :: _, [], _, _, h => by simp at h
theorem encL_nil : encL [] [] = ⟨#[]⟩ := rfl
theorem vL_app (l : List UInt8) (k n m : Nat) : vL l k n ++ vL l (k + n) m = vL l k (n + m) := by
  unfold vL
  rw [← List.drop_drop, List.take_add]
/-- What was read, laid again, is what stood there. -/
theorem enc_ents (s : ByteArray) : ∀ n, posK s n ≤ s.size → bl (encL ((entsK s n).map (·.1)) ((entsK s n).map (·.2))) = vL (bl s) 2 (posK s n - 2)
  | 0, _ => by show bl (encL [] []) = _; rw [encL_nil]; simp [bl, vL, posK]
  | n + 1, h => by
    have hp : posK s (n + 1) = nextS s (posK s n) := rfl
    have hg := posK_ge s n
    rw [hp] at h ⊢
    have ih := enc_ents s n (by unfold nextS at h; omega)
    rw [entsK, List.map_append, List.map_append]
    show bl (encL (_ ++ [(entS s (posK s n)).1]) (_ ++ [(entS s (posK s n)).2])) = _
    rw [encL_snoc _ _ _ _ (by simp), bl_append, ih, txtB, bl_append]
    unfold entS
    unfold nextS at h ⊢
    simp only
    have e1 := text_take s (posK s n) 2 (by omega) (by omega) (by omega)
    have e2 := text_take s (posK s n + 2 + valN s (posK s n) 2) 1 (by omega) (by omega) (by omega)
    rw [show ((2 : Nat) : Int) = 2 from rfl] at e1
    rw [show ((1 : Nat) : Int) = 1 from rfl] at e2
    rw [e1, e2]
    obtain ⟨q, hq⟩ : ∃ q, posK s n = 2 + q := ⟨posK s n - 2, by omega⟩
    rw [hq]
    generalize valN s (2 + q) 2 = a
    generalize valN s (2 + q + 2 + a) 1 = b
    rw [show 2 + q - 2 = q by omega, ← List.append_assoc, vL_app, show 2 + q + 2 + a = 2 + (q + (2 + a)) by omega, vL_app]
    congr 1
    omega
theorem dec_eq (s : ByteArray) : decP s = decR s := by
  unfold decP decR
  by_cases h : s.size < endK s
  · rw [if_pos h, if_pos h]
  · rw [if_neg h, if_neg h]
    have hg := posK_ge s (valN s 1 1)
    have he : endK s ≤ s.size := by omega
    have h2 : 2 + 3 * valN s 1 1 ≤ endK s := hg
    have e1 : bl (encD (rawD s)) = bl (markB (decide (valB s 0 1 = ⟨#[76]⟩))) ++ (vL (bl s) 1 1 ++ vL (bl s) 2 (endK s - 2)) := by
      unfold encD rawD ofE
      simp only
      rw [bl_append, bl_append, List.length_map, entsK_len, enc_ents s _ he, List.append_assoc]
      have := put_val s 1 1 (by omega) (by omega) (by omega)
      rw [show ((1 : Nat) : Int) = 1 from rfl] at this
      rw [this]
      rfl
    have e2 : bl s = vL (bl s) 0 1 ++ (vL (bl s) 1 1 ++ (vL (bl s) 2 (endK s - 2) ++ (bl s).drop (endK s))) := by
      have a1 := vL_join (bl s) 2 (endK s - 2)
      rw [show 2 + (endK s - 2) = endK s by omega] at a1
      rw [a1, show (2 : Nat) = 1 + 1 from rfl, vL_join (bl s) 1 1, show (1 : Nat) = 0 + 1 from rfl, vL_join (bl s) 0 (0 + 1)]
      rfl
    have e3 : bl (valB s 0 1) = vL (bl s) 0 1 := valB_bl s 0 1 (by omega)
    have hlen1 : (vL (bl s) 0 1).length = 1 := by rw [← e3, bl_size]; exact valB_full s 0 1 (by omega)
    have hlm : ∀ b, (bl (markB b)).length = 1 := fun b => by cases b <;> rfl
    have key : encD (rawD s) = s ↔ ¬ (endK s < s.size ∨ (valB s 0 1 ≠ ⟨#[76]⟩ ∧ valB s 0 1 ≠ ⟨#[73]⟩)) := by
      constructor
      · intro e
        have e4 : bl (encD (rawD s)) = bl s := by rw [e]
        rw [e1] at e4
        have e5 := e4
        rw [e2] at e5
        obtain ⟨f1, _⟩ := List.append_inj e5 (by rw [hlm, hlen1])
        rintro (h3 | ⟨h3, h4⟩)
        · have := congrArg List.length e4
          rw [List.length_append, List.length_append, hlm] at this
          unfold vL at this
          simp only [List.length_take, List.length_drop, bl_size] at this
          omega
        · rw [decide_eq_false h3, ← e3] at f1
          exact h4 (bl_ext f1.symm)
      · intro h3
        have h4 : ¬ endK s < s.size := fun h => h3 (.inl h)
        have h5 : markB (decide (valB s 0 1 = ⟨#[76]⟩)) = valB s 0 1 := by
          by_cases h6 : valB s 0 1 = ⟨#[76]⟩
          · rw [decide_eq_true h6, h6]; rfl
          · have h7 : valB s 0 1 = ⟨#[73]⟩ := by
              rcases Classical.em (valB s 0 1 = ⟨#[73]⟩) with h | h
              · exact h
              · exact absurd (Or.inr ⟨h6, h⟩) h3
            rw [decide_eq_false h6, h7]; rfl
        apply bl_ext
        rw [e1, h5, e3]
        conv => rhs; rw [e2]
        rw [List.drop_of_length_le (by rw [bl_size]; omega), List.append_nil]
    by_cases hk : chkN (rawD s) = 0
    · by_cases hs : encD (rawD s) = s
      · rw [if_neg (fun h => by rcases h with h | h | h; exact key.1 hs (.inl h); exact key.1 hs (.inr h); exact h hk), if_neg (fun h => by rcases h with h | h; exact h hk; exact h hs)]
      · rw [if_pos (by
          rcases Classical.em (endK s < s.size ∨ (valB s 0 1 ≠ ⟨#[76]⟩ ∧ valB s 0 1 ≠ ⟨#[73]⟩)) with h | h
          · rcases h with h | h
            · exact .inl h
            · exact .inr (.inl h)
          · exact absurd (key.2 h) hs), if_pos (.inr hs)]
    · rw [if_pos (.inr (.inr hk)), if_pos (.inl hk)]

/-! What is laid is taken as it was. -/
theorem encL_cut : ∀ (ks vs : List ByteArray) (i : Nat), ks.length = vs.length → encL ks vs = encL (ks.take i) (vs.take i) ++ encL (ks.drop i) (vs.drop i)
  | [], [], i, _ => by cases i <;> (show encL [] [] = encL [] [] ++ encL [] []; rw [encL_nil]; rfl)
  | k :: ks, v :: vs, 0, _ => by
    show _ = encL [] [] ++ encL (k :: ks) (v :: vs)
    apply bl_ext; rw [bl_append, encL_nil]; simp [bl]
  | k :: ks, v :: vs, i + 1, h => by
    show txtB k v ++ encL ks vs = (txtB k v ++ encL (ks.take i) (vs.take i)) ++ encL (ks.drop i) (vs.drop i)
    rw [encL_cut ks vs i (by simpa using h), ByteArray.append_assoc]
  | [], _ :: _, _, h => by simp at h
  | _ :: _, [], _, h => by simp at h
theorem encL_size : ∀ E : List Ent, (∀ x ∈ E, okE x.1 x.2 = true) → (encL (E.map (·.1)) (E.map (·.2))).size = szL (E.map (·.1)) (E.map (·.2))
  | [], _ => rfl
  | x :: r, h => by
    have ih := encL_size r (fun y hy => h y (List.mem_cons_of_mem _ hy))
    have hx := h x (by simp)
    rw [okE, decide_eq_true_eq] at hx
    have t1 := text_size x.1 2 (by omega) (by omega) (by omega)
    have t2 := text_size x.2 1 (by omega) (by omega) (by omega)
    rw [show ((2 : Nat) : Int) = 2 from rfl] at t1
    rw [show ((1 : Nat) : Int) = 1 from rfl] at t2
    show (txtB x.1 x.2 ++ encL (r.map _) (r.map _)).size = 3 + x.1.size + x.2.size + szL (r.map _) (r.map _)
    rw [ByteArray.size_append, ih, txtB, ByteArray.size_append, t1, t2]
    omega
theorem vL_mid {A B C : List UInt8} {p n : Nat} (hp : A.length = p) (hn : B.length = n) : vL (A ++ (B ++ C)) p n = B := by
  rw [vL_skip hp (Nat.le_refl _), Nat.sub_self, vL_here hn]
theorem enc_at (b : Bool) (E : List Ent) (h : OkL E) (hl : E.length ≤ 255) (i : Nat) (hi : i < E.length) :
    ∃ A C, bl (encD (ofE b E)) = A ++ (leList (E[i].1).size 2 ++ (bl E[i].1 ++ (leList (E[i].2).size 1 ++ (bl E[i].2 ++ C)))) ∧ A.length = 2 + szL ((E.take i).map (·.1)) ((E.take i).map (·.2)) := by
  have hx := h.ok E[i] (List.getElem_mem hi)
  rw [okE, decide_eq_true_eq] at hx
  have t1 := text_bl E[i].1 2 (by omega) (by omega) (by omega)
  have t2 := text_bl E[i].2 1 (by omega) (by omega) (by omega)
  rw [show ((2 : Nat) : Int) = 2 from rfl] at t1
  rw [show ((1 : Nat) : Int) = 1 from rfl] at t2
  have e := encL_cut (E.map (·.1)) (E.map (·.2)) i (by simp)
  have hd : E.drop i = E[i] :: E.drop (i + 1) := List.drop_eq_getElem_cons hi
  refine ⟨bl (markB b ++ putB E.length 1) ++ bl (encL ((E.take i).map (·.1)) ((E.take i).map (·.2))), bl (encL ((E.drop (i + 1)).map (·.1)) ((E.drop (i + 1)).map (·.2))), ?_, ?_⟩
  · unfold encD ofE
    simp only
    rw [e, ← List.map_take, ← List.map_take, ← List.map_drop, ← List.map_drop, hd]
    show bl (_ ++ (_ ++ (txtB E[i].1 E[i].2 ++ encL _ _))) = _
    simp only [bl_append, txtB, t1, t2, List.append_assoc, List.length_map]
  · have hp := putB_bl E.length 1 (by omega) (by omega) (by omega)
    rw [show ((1 : Nat) : Int) = 1 from rfl] at hp
    rw [List.length_append, bl_append, List.length_append, hp, leList_length, bl_size, bl_size, encL_size _ (fun x hx => h.ok x (List.mem_of_mem_take hx))]
    cases b <;> rfl
theorem enc_len (b : Bool) (E : List Ent) (h : OkL E) (hl : E.length ≤ 255) : (encD (ofE b E)).size = 2 + szL (E.map (·.1)) (E.map (·.2)) := by
  have hp := putB_bl E.length 1 (by omega) (by omega) (by omega)
  rw [show ((1 : Nat) : Int) = 1 from rfl] at hp
  unfold encD ofE
  simp only
  rw [ByteArray.size_append, ByteArray.size_append, encL_size E h.ok, List.length_map, ← bl_size (putB _ _), hp, leList_length]
  cases b <;> rfl
theorem valN_of {s : ByteArray} {A C : List UInt8} {n p w : Nat} (hw : n < 256 ^ w) (h : bl s = A ++ (leList n w ++ C)) (hp : A.length = p) : valN s p w = n := by
  have hz : s.size = p + (w + C.length) := by rw [← bl_size, h, List.length_append, List.length_append, leList_length, hp]
  rw [valN_bl s p w (by omega), h, vL_mid hp (leList_length n w), leVal_leL n w hw]
theorem valB_of {s t : ByteArray} {A C : List UInt8} {p n : Nat} (h : bl s = A ++ (bl t ++ C)) (hp : A.length = p) (hn : t.size = n) : valB s p n = t := by
  have hz : s.size = p + (t.size + C.length) := by rw [← bl_size, h, List.length_append, List.length_append, bl_size, hp]
  apply bl_ext
  rw [valB_bl s p n (by omega), h, vL_mid hp (by rw [bl_size, hn])]
theorem take_enc (b : Bool) (E : List Ent) (h : OkL E) (hl : E.length ≤ 255) : ∀ i, i ≤ E.length → posK (encD (ofE b E)) i = 2 + szL ((E.take i).map (·.1)) ((E.take i).map (·.2)) ∧ entsK (encD (ofE b E)) i = E.take i
  | 0, _ => by simp [posK, entsK, szL]
  | i + 1, hi => by
    obtain ⟨p1, p2⟩ := take_enc b E h hl i (by omega)
    have hi' : i < E.length := by omega
    obtain ⟨A, C, e, ha⟩ := enc_at b E h hl i hi'
    have hx := h.ok E[i] (List.getElem_mem hi')
    rw [okE, decide_eq_true_eq] at hx
    rw [← p1] at ha
    generalize hs : encD (ofE b E) = s at *
    generalize hpk : posK s i = p at *
    have v1 : valN s p 2 = (E[i].1).size := valN_of (by omega) e ha
    have b1 : valB s (p + 2) (E[i].1).size = E[i].1 := valB_of (A := A ++ leList (E[i].1).size 2) (by rw [e]; simp only [List.append_assoc]; rfl) (by rw [List.length_append, leList_length, ha]) rfl
    have v2 : valN s (p + 2 + (E[i].1).size) 1 = (E[i].2).size := valN_of (A := A ++ (leList (E[i].1).size 2 ++ bl E[i].1)) (by omega) (by rw [e]; simp only [List.append_assoc]; rfl) (by rw [List.length_append, List.length_append, leList_length, bl_size, ha]; omega)
    have b2 : valB s (p + 2 + (E[i].1).size + 1) (E[i].2).size = E[i].2 := valB_of (A := A ++ (leList (E[i].1).size 2 ++ (bl E[i].1 ++ leList (E[i].2).size 1))) (by rw [e]; simp only [List.append_assoc]; rfl) (by rw [List.length_append, List.length_append, List.length_append, leList_length, leList_length, bl_size, ha]; omega) rfl
    have ht : E.take (i + 1) = E.take i ++ [E[i]] := List.take_succ_eq_append_getElem hi'
    constructor
    · have hz := sz_take (E.map (·.1)) (E.map (·.2)) i (by simpa using hi') (by simpa using hi')
      rw [← List.map_take, ← List.map_take, ← List.map_take, ← List.map_take] at hz
      rw [posK, nextS, hpk, v1, v2, hz, p1]
      simp only [List.getElem_map]
      omega
    · rw [entsK, hpk, p2, ht, entS, v1, b1, v2, b2]
theorem dec_enc (d : NodeD) (h : chkN d = 0) : decP (encD d) = (d, 0) := by
  have hm : mayD d = true := by
    unfold chkN at h
    split at h
    · assumption
    · cases h
  obtain ⟨E, e, hE, hl⟩ := may_of hm
  have hc := h
  rw [e] at hc ⊢
  generalize d.leaf = b at *
  obtain ⟨p1, p2⟩ := take_enc b E hE hl E.length (Nat.le_refl _)
  rw [List.take_length] at p1 p2
  have hz := enc_len b E hE hl
  have hb : bl (encD (ofE b E)) = bl (markB b) ++ (leList E.length 1 ++ bl (encL (E.map (·.1)) (E.map (·.2)))) := by
    have hp := putB_bl E.length 1 (by omega) (by omega) (by omega)
    rw [show ((1 : Nat) : Int) = 1 from rfl] at hp
    unfold encD ofE
    simp only
    rw [bl_append, bl_append, List.length_map, hp, List.append_assoc]
  have m1 : (bl (markB b)).length = 1 := by cases b <;> rfl
  have hv : valN (encD (ofE b E)) 1 1 = E.length := valN_of (by omega) hb m1
  have hm0 : valB (encD (ofE b E)) 0 1 = markB b := valB_of (A := []) (by rw [hb]; rfl) rfl (by rw [← bl_size, m1])
  have hr : rawD (encD (ofE b E)) = ofE b E := by
    unfold rawD
    rw [hv, p2, hm0]
    cases b <;> rfl
  have he : endK (encD (ofE b E)) = (encD (ofE b E)).size := by unfold endK; rw [hv, p1, hz]
  unfold decP
  rw [he, hr, hm0, if_neg (Nat.lt_irrefl _), if_neg]
  rintro (h1 | ⟨h1, h2⟩ | h1)
  · exact Nat.lt_irrefl _ h1
  · cases b
    · exact h2 rfl
    · exact h1 rfl
  · exact h1 hc
theorem dec_ok {s : ByteArray} (h : (decP s).2 = 0) : (decP s).1 = rawD s ∧ chkN (rawD s) = 0 ∧ encD (rawD s) = s := by
  rw [dec_eq] at h ⊢
  unfold decR at h ⊢
  split at h
  · cases h
  · next h1 =>
    rw [if_neg h1]
    split at h
    · cases h
    · next h2 =>
      rw [if_neg h2]
      refine ⟨rfl, ?_, ?_⟩
      · rcases Classical.em (chkN (rawD s) = 0) with h3 | h3
        · exact h3
        · exact absurd (Or.inl h3) h2
      · rcases Classical.em (encD (rawD s) = s) with h3 | h3
        · exact h3
        · exact absurd (Or.inr h3) h2
theorem dec_bad {s : ByteArray} (h : (decP s).2 ≠ 0) : (decP s).1 = nilD := by
  unfold decP at h ⊢
  split
  · rfl
  · next h1 =>
    rw [if_neg h1] at h
    split
    · rfl
    · next h2 => rw [if_neg h2] at h; exact absurd rfl h
end Go.Proofs.Ytbeldjijnjgbfaa
