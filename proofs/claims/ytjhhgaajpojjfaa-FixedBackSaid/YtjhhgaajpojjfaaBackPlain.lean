/-
  What is put one behind the other, and what is left of it as it is taken: plain lists.
-/
import Derived.Test.YtjhhgaajpojjfaaText
import Derived.Test.YtjhhgaajpojjfaaReader
namespace Go.Proofs.Ytjhhgaajpojjfaa

def NB (wd : Nat) (l : List Int) : List UInt8 := l.flatMap fun n => leList n.toNat wd
def TB (wd : Nat) (l : List ByteArray) : List UInt8 := l.flatMap fun t => leList t.size wd ++ t.data.toList

def sN (l : List Int) (wd i : Nat) : ByteArray := ⟨(NB wd (l.take i)).toArray⟩
def sT (l : List Int) (t : List ByteArray) (wd i : Nat) : ByteArray := ⟨(NB wd l ++ TB wd (t.take i)).toArray⟩
def rN (l : List Int) (t : List ByteArray) (wd i : Nat) : ByteArray := ⟨(NB wd (l.drop i) ++ TB wd t).toArray⟩
def rT (t : List ByteArray) (wd i : Nat) : ByteArray := ⟨(TB wd (t.drop i)).toArray⟩

theorem get_of_some {α : Type} {l : List α} {i : Nat} {x : α} (h : l[i]? = some x) : ∃ hl : i < l.length, l[i] = x := List.getElem?_eq_some_iff.1 h

theorem ba_append (a b : List UInt8) : (⟨a.toArray⟩ : ByteArray) ++ ⟨b.toArray⟩ = ⟨(a ++ b).toArray⟩ := by
  apply ByteArray.ext
  simp [ByteArray.data_append]

theorem ba_list (s : ByteArray) : (⟨s.data.toList.toArray⟩ : ByteArray) = s := by
  apply ByteArray.ext
  simp

theorem sN_zero (l : List Int) (wd : Nat) : sN l wd 0 = ⟨#[]⟩ := rfl

theorem take_some {α : Type} {l : List α} {i : Nat} {x : α} (h : l[i]? = some x) : l.take (i + 1) = l.take i ++ [x] := by
  obtain ⟨hl, rfl⟩ := get_of_some h
  exact List.take_succ_eq_append_getElem hl

theorem drop_some {α : Type} {l : List α} {i : Nat} {x : α} (h : l[i]? = some x) : l.drop i = x :: l.drop (i + 1) := by
  obtain ⟨hl, rfl⟩ := get_of_some h
  exact List.drop_eq_getElem_cons hl

theorem sN_succ {l : List Int} {wd i : Nat} {n : Int} (h : l[i]? = some n) (h0 : 0 ≤ n) (h1 : n ≤ mostI wd) : sN l wd i ++ putB n wd = sN l wd (i + 1) := by
  unfold sN putB
  rw [if_neg (by omega), ba_append, take_some h, Int.toNat_natCast]
  simp [NB]

theorem NB_length (wd : Nat) (l : List Int) : (NB wd l).length = l.length * wd := by
  induction l with
  | nil => simp [NB]
  | cons x r ih =>
    have : NB wd (x :: r) = leList x.toNat wd ++ NB wd r := rfl
    rw [this, List.length_append, leList_length, ih, List.length_cons, Nat.add_mul]
    omega

theorem TB_length (wd : Nat) (l : List ByteArray) (h : ∀ t ∈ l, t.size ≤ 100) : (TB wd l).length ≤ l.length * (wd + 100) := by
  induction l with
  | nil => simp [TB]
  | cons x r ih =>
    have e : TB wd (x :: r) = leList x.size wd ++ x.data.toList ++ TB wd r := rfl
    have := ih fun t ht => h t (List.mem_cons_of_mem _ ht)
    have hx := h x List.mem_cons_self
    have hs : x.data.toList.length = x.size := by simp
    rw [e, List.length_append, List.length_append, leList_length, hs, List.length_cons, Nat.add_mul]
    omega

theorem sN_size (l : List Int) (wd i : Nat) (hl : l.length ≤ 20) (hw : wd ≤ 7) : (sN l wd i).size ≤ 140 := by
  have : (sN l wd i).size = (NB wd (l.take i)).length := by simp [sN, ByteArray.size]
  rw [this, NB_length, List.length_take]
  have h1 : min i l.length ≤ 20 := by omega
  have := Nat.mul_le_mul h1 hw
  omega

theorem sT_size (l : List Int) (t : List ByteArray) (wd i : Nat) (hl : l.length ≤ 20) (ht : t.length ≤ 20) (hw : wd ≤ 7) (h : ∀ x ∈ t.take i, x.size ≤ 100) : (sT l t wd i).size ≤ 2280 := by
  have : (sT l t wd i).size = (NB wd l).length + (TB wd (t.take i)).length := by simp [sT, ByteArray.size]
  rw [this, NB_length]
  have h2 := TB_length wd (t.take i) h
  rw [List.length_take] at h2
  have h1 : min i t.length ≤ 20 := by omega
  have h3 := Nat.mul_le_mul h1 (Nat.add_le_add_right hw 100)
  have h4 := Nat.mul_le_mul hl hw
  omega

theorem sN_end (l : List Int) (t : List ByteArray) (wd : Nat) : sN l wd l.length = sT l t wd 0 := by
  simp [sN, sT, TB]

theorem most_255 (wd : Nat) (hw : 1 ≤ wd ∧ wd ≤ 7) : 255 ≤ mostI wd := by
  unfold mostI
  rw [if_pos (by omega), Int.toNat_natCast]
  obtain ⟨k, rfl⟩ : ∃ k, wd = k + 1 := ⟨wd - 1, by omega⟩
  have := p256 k (by omega)
  rw [Int.pow_succ]
  omega

theorem sT_succ {l : List Int} {t : List ByteArray} {wd i : Nat} {x : ByteArray} (h : t[i]? = some x) (hw : 1 ≤ wd ∧ wd ≤ 7) (hx : x.size ≤ 100) : sT l t wd i ++ textB x wd = sT l t wd (i + 1) := by
  have hm := most_255 wd hw
  have hp : putB (x.size : Int) wd = ⟨(leList x.size wd).toArray⟩ := by
    unfold putB
    rw [if_neg (by omega), Int.toNat_natCast, Int.toNat_natCast]
  unfold textB
  rw [if_neg (by omega), hp, ← ba_list x, ba_append]
  unfold sT
  rw [ba_append, take_some h]
  simp [TB]

theorem sT_end (l : List Int) (t : List ByteArray) (wd : Nat) : sT l t wd t.length = rN l t wd 0 := by
  simp [sT, rN]

theorem rN_end (l : List Int) (t : List ByteArray) (wd : Nat) : rN l t wd l.length = rT t wd 0 := by
  simp [rN, rT, NB]

theorem rT_end (t : List ByteArray) (wd : Nat) : rT t wd t.length = ⟨#[]⟩ := by
  simp [rT, TB]

theorem leVal_leList : ∀ (n k : Nat), n < 256 ^ k → leVal (leList n k) = n
  | n, 0, h => by simp at h; subst h; rfl
  | n, k + 1, h => by
    have : n / 256 < 256 ^ k := by rw [Nat.pow_succ] at h; omega
    simp only [leList, leVal, leVal_leList (n / 256) k this]
    have : (UInt8.ofNat n).toNat = n % 256 := by simp
    omega

theorem lt_pow_of_most {n wd : Nat} (hw : 1 ≤ wd ∧ wd ≤ 7) (h : (n : Int) ≤ mostI wd) : n < 256 ^ wd := by
  unfold mostI at h
  rw [if_pos (by omega), Int.toNat_natCast] at h
  have : (n : Int) < ((256 ^ wd : Nat) : Int) := by rw [Int.natCast_pow]; show (n : Int) < (256 : Int) ^ wd; omega
  exact_mod_cast this

theorem extract_list (a b : List UInt8) : (⟨(a ++ b).toArray⟩ : ByteArray).extract 0 a.length = ⟨a.toArray⟩ := by
  apply ByteArray.ext
  simp [ByteArray.data_extract]

theorem extract_rest (a b : List UInt8) : (⟨(a ++ b).toArray⟩ : ByteArray).extract a.length (⟨(a ++ b).toArray⟩ : ByteArray).size = ⟨b.toArray⟩ := by
  apply ByteArray.ext
  apply Array.toList_inj.1
  simp [ByteArray.data_extract, ByteArray.size]

/-- Bytes of as many as the front has. -/
theorem bytes_front (a b : List UInt8) {k : Int} (hk : k = (a.length : Int)) (er : Int) :
    bytesR ⟨(a ++ b).toArray⟩ k = ⟨a.toArray⟩ ∧ bytesS ⟨(a ++ b).toArray⟩ er k = ⟨b.toArray⟩ ∧ bytesE ⟨(a ++ b).toArray⟩ er k = er := by
  subst hk
  have hz : (⟨(a ++ b).toArray⟩ : ByteArray).size = a.length + b.length := by simp [ByteArray.size]
  have hn : ¬ ((a.length : Int) < 0 ∨ ((⟨(a ++ b).toArray⟩ : ByteArray).size : Int) < a.length) := by omega
  refine ⟨(if_neg hn).trans ?_, (if_neg hn).trans ?_, ?_⟩
  · rw [Int.toNat_natCast]; exact extract_list a b
  · rw [Int.toNat_natCast]; exact extract_rest a b
  · unfold bytesE
    rw [if_neg (by omega), if_neg (by omega)]

/-- A number at the front. -/
theorem num_front (n wd : Nat) (r : List UInt8) (hw : 1 ≤ wd ∧ wd ≤ 7) (h : n < 256 ^ wd) :
    numR ⟨(leList n wd ++ r).toArray⟩ wd = n ∧ numS ⟨(leList n wd ++ r).toArray⟩ 0 wd = ⟨r.toArray⟩ ∧ numE ⟨(leList n wd ++ r).toArray⟩ 0 wd = 0 := by
  have hk : okW (wd : Int) := by unfold okW; omega
  have hb := bytes_front (leList n wd) r (k := wd) (by rw [leList_length]) 0
  refine ⟨(if_pos hk).trans ?_, (if_pos hk).trans hb.2.1, (if_pos hk).trans hb.2.2⟩
  rw [hb.1]
  simp [leVal_leList n wd h]

theorem rN_num {l : List Int} {t : List ByteArray} {wd i : Nat} {n : Int} (h : l[i]? = some n) (hw : 1 ≤ wd ∧ wd ≤ 7) (h0 : 0 ≤ n) (h1 : n ≤ mostI wd) :
    numR (rN l t wd i) wd = n ∧ numS (rN l t wd i) 0 wd = rN l t wd (i + 1) ∧ numE (rN l t wd i) 0 wd = 0 := by
  obtain ⟨m, rfl⟩ : ∃ m : Nat, n = m := ⟨n.toNat, by omega⟩
  have e : rN l t wd i = ⟨(leList m wd ++ (NB wd (l.drop (i + 1)) ++ TB wd t)).toArray⟩ := by
    unfold rN
    rw [drop_some h]
    simp [NB]
  rw [e]
  exact num_front m wd _ hw (lt_pow_of_most hw h1)

theorem rT_text {t : List ByteArray} {wd i : Nat} {x : ByteArray} (h : t[i]? = some x) (hw : 1 ≤ wd ∧ wd ≤ 7) (hx : x.size ≤ 100) :
    textR (rT t wd i) 0 wd = x ∧ textS (rT t wd i) 0 wd = rT t wd (i + 1) ∧ textE (rT t wd i) 0 wd = 0 := by
  have e : rT t wd i = ⟨(leList x.size wd ++ (x.data.toList ++ TB wd (t.drop (i + 1)))).toArray⟩ := by
    unfold rT
    rw [drop_some h]
    simp [TB]
  have hm := most_255 wd hw
  have hn := num_front x.size wd (x.data.toList ++ TB wd (t.drop (i + 1))) hw (lt_pow_of_most hw (by omega))
  have hb := bytes_front x.data.toList (TB wd (t.drop (i + 1))) (k := x.size) (by simp) 0
  rw [e]
  unfold textR textS textE
  rw [hn.1, hn.2.1, hn.2.2]
  refine ⟨hb.1.trans (ba_list x), hb.2.1, hb.2.2⟩
end Go.Proofs.Ytjhhgaajpojjfaa
