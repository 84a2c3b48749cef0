/-
  Texts put together: ShaPlain, Right, Quiet, Sched.
-/
import Derived.Test.YtphhnhldbajaoaaGreatDoorMg0
import Derived.Test.YtphhnhldbajaoaaGreatDoorRows
import Derived.WalkKit
import Derived.Deep.QuietTactic
import Derived.BigQuiet
import Derived.WalkSmall
import Derived.ChangeAlike
import Derived.RegionTactic
import Derived.BigRegion
namespace Go.Proofs.YtphhnhldbajaoaaGreatDoor
open Go.RowKit

/-- Turned right, in 32 bits. -/
def rotr (x n : Nat) : Nat := (x * 2 ^ (32 - n)) % 4294967296 ||| x / 2 ^ n

theorem rotr_lt (x n : Nat) (h : x < 4294967296) : rotr x n < 4294967296 := by
  unfold rotr
  have h1 : (x * 2 ^ (32 - n)) % 4294967296 < 2 ^ 32 := Nat.mod_lt _ (by decide)
  have h2 : x / 2 ^ n < 2 ^ 32 := Nat.lt_of_le_of_lt (Nat.div_le_self _ _) h
  exact Nat.or_lt_two_pow h1 h2
theorem rot_eq (x n m M N : Nat) (hx : x < 4294967296) (hM : M = 2 ^ m) (hN : N = 2 ^ n) (hn : 32 - n = m) : bits .or .u32 ((x : Int) * (M : Int) % 4294967296) ((x : Int) / (N : Int)) = ((rotr x n : Nat) : Int) := by
  have e1 : (x : Int) * (M : Int) % 4294967296 = (((x * 2 ^ (32 - n)) % 4294967296 : Nat) : Int) := by rw [hn, ← hM]; simp
  have e2 : (x : Int) / (N : Int) = ((x / 2 ^ n : Nat) : Int) := by rw [← hN]; simp
  rw [e1, e2, u32_or_nat _ _ (Nat.mod_lt _ (by decide)) (Nat.lt_of_le_of_lt (Nat.div_le_self _ _) hx)]
  rfl

/-- Byte i of a text; 0 behind its end. -/
def byN (s : ByteArray) (i : Nat) : Nat := (s.data.toList.getD i 0).toNat
theorem byN_get (s : ByteArray) : ∀ (n : Nat) (h : n < s.size), ((s[n]'h).toNat : Int) = (byN s n : Int) := by
  intro n h
  unfold byN
  have : s.data.toList.getD n 0 = s[n] := by
    rw [List.getD, List.getElem?_eq_getElem (by simpa using h)]
    rfl
  rw [this]
theorem byN_lt (s : ByteArray) (n : Nat) : byN s n < 256 := UInt8.toNat_lt _

def be4 (s : ByteArray) (i : Nat) : Nat := byN s i * 16777216 ||| byN s (i + 1) * 65536 ||| byN s (i + 2) * 256 ||| byN s (i + 3)
theorem be4_lt (s : ByteArray) (i : Nat) : be4 s i < 4294967296 := by
  unfold be4
  have h0 := byN_lt s i
  have h1 := byN_lt s (i + 1)
  have h2 := byN_lt s (i + 2)
  have h3 := byN_lt s (i + 3)
  exact Nat.or_lt_two_pow (n := 32) (Nat.or_lt_two_pow (Nat.or_lt_two_pow (by omega) (by omega)) (by omega)) (by omega)

def sig0 (x : Nat) : Nat := rotr x 7 ^^^ rotr x 18 ^^^ x / 8
def sig1 (x : Nat) : Nat := rotr x 17 ^^^ rotr x 19 ^^^ x / 1024
/-- The next word of the schedule. -/
def wnext (s : ByteArray) (l : List Nat) (k : Nat) : Nat :=
  if k < 16 then be4 s (4 * k) else (sig1 (l.getD (k - 2) 0) + l.getD (k - 7) 0 + sig0 (l.getD (k - 15) 0) + l.getD (k - 16) 0) % 4294967296
def wk (s : ByteArray) : Nat → List Nat
  | 0 => []
  | k + 1 => wk s k ++ [wnext s (wk s k) k]
theorem wk_length (s : ByteArray) : ∀ k, (wk s k).length = k
  | 0 => rfl
  | k + 1 => by simp [wk, wk_length s k]
theorem wnext_lt (s : ByteArray) (l : List Nat) (k : Nat) : wnext s l k < 4294967296 := by
  unfold wnext
  split
  · exact be4_lt s _
  · exact Nat.mod_lt _ (by decide)
theorem wk_lt (s : ByteArray) : ∀ k, ∀ x ∈ wk s k, x < 4294967296
  | 0 => fun x h => by simp [wk] at h
  | k + 1 => fun x h => by
    rcases List.mem_append.1 h with h | h
    · exact wk_lt s k x h
    · rw [List.mem_singleton.1 h]; exact wnext_lt s _ k
theorem getD_lt {l : List Nat} (h : ∀ x ∈ l, x < 4294967296) (i : Nat) : l.getD i 0 < 4294967296 := by
  rw [List.getD]
  cases e : l[i]? with
  | none => simp
  | some x => exact h x (List.mem_of_getElem? e)

def uV (n : Nat) : Value := .int .u32 (n : Int)
/-- The array behind k rounds: its first k words are there, the rest are 0. -/
def wrow (l : List Nat) : List Value := l.map uV ++ List.replicate (64 - l.length) (uV 0)
theorem wrow_length (l : List Nat) (h : l.length ≤ 64) : (wrow l).length = 64 := by simp [wrow]; omega
theorem wrow_set (l : List Nat) (x : Nat) (h : l.length < 64) : (wrow l).set l.length (uV x) = wrow (l ++ [x]) := by
  unfold wrow
  rw [List.set_append, List.length_map, if_neg (by omega), Nat.sub_self, show 64 - l.length = (64 - (l.length + 1)) + 1 by omega, List.replicate_succ, List.set_cons_zero]
  simp
theorem wrow_get (l : List Nat) (i : Nat) (h : i < l.length) : (wrow l)[i]? = some (uV (l.getD i 0)) := by
  unfold wrow
  rw [List.getElem?_append_left (by simpa using h)]
  simp [List.getD, List.getElem?_eq_getElem h]
theorem wrow_zero (l : List Nat) (h : l.length < 64) : (wrow l)[l.length]? = some (uV 0) := by
  unfold wrow
  rw [List.getElem?_append_right (by simp)]
  simp [List.getElem?_replicate]
  omega

theorem be4_eq (s : ByteArray) (i : Nat) :
    bits .or .u32 (bits .or .u32 (bits .or .u32 ((byN s i : Int) * 16777216) ((byN s (i + 1) : Int) * 65536)) ((byN s (i + 2) : Int) * 256)) (byN s (i + 3) : Int) = ((be4 s i : Nat) : Int) := by
  have h0 := byN_lt s i
  have h1 := byN_lt s (i + 1)
  have h2 := byN_lt s (i + 2)
  have h3 := byN_lt s (i + 3)
  have e0 : (byN s i : Int) * 16777216 = ((byN s i * 16777216 : Nat) : Int) := by simp
  have e1 : (byN s (i + 1) : Int) * 65536 = ((byN s (i + 1) * 65536 : Nat) : Int) := by simp
  have e2 : (byN s (i + 2) : Int) * 256 = ((byN s (i + 2) * 256 : Nat) : Int) := by simp
  rw [e0, e1, e2, u32_or_nat _ _ (by omega) (by omega), u32_or_nat _ _ (Nat.or_lt_two_pow (n := 32) (by omega) (by omega)) (by omega),
    u32_or_nat _ _ (Nat.or_lt_two_pow (n := 32) (Nat.or_lt_two_pow (by omega) (by omega)) (by omega)) (by omega)]
  rfl

theorem xor3_eq (a b x N : Nat) (ha : a < 4294967296) (hb : b < 4294967296) (hx : x < 4294967296) :
    bits .xor .u32 (bits .xor .u32 (a : Int) (b : Int)) ((x : Int) / (N : Int)) = ((a ^^^ b ^^^ x / N : Nat) : Int) := by
  have e2 : (x : Int) / (N : Int) = ((x / N : Nat) : Int) := by simp
  rw [e2, u32_xor_nat _ _ ha hb, u32_xor_nat _ _ (Nat.xor_lt_two_pow (n := 32) ha hb) (Nat.lt_of_le_of_lt (Nat.div_le_self _ _) hx)]
theorem sig0_eq (x : Nat) (h : x < 4294967296) : bits .xor .u32 (bits .xor .u32 (rotr x 7 : Int) (rotr x 18 : Int)) ((x : Int) / 8) = ((sig0 x : Nat) : Int) :=
  xor3_eq _ _ x 8 (rotr_lt x 7 h) (rotr_lt x 18 h) h
theorem sig1_eq (x : Nat) (h : x < 4294967296) : bits .xor .u32 (bits .xor .u32 (rotr x 17 : Int) (rotr x 19 : Int)) ((x : Int) / 1024) = ((sig1 x : Nat) : Int) :=
  xor3_eq _ _ x 1024 (rotr_lt x 17 h) (rotr_lt x 19 h) h

/-- The cube roots' words. -/
def kTab : List Nat := [1116352408, 1899447441, 3049323471, 3921009573, 961987163, 1508970993, 2453635748, 2870763221, 3624381080, 310598401, 607225278, 1426881987, 1925078388, 2162078206, 2614888103, 3248222580, 3835390401, 4022224774, 264347078, 604807628, 770255983, 1249150122, 1555081692, 1996064986, 2554220882, 2821834349, 2952996808, 3210313671, 3336571891, 3584528711, 113926993, 338241895, 666307205, 773529912, 1294757372, 1396182291, 1695183700, 1986661051, 2177026350, 2456956037, 2730485921, 2820302411, 3259730800, 3345764771, 3516065817, 3600352804, 4094571909, 275423344, 430227734, 506948616, 659060556, 883997877, 958139571, 1322822218, 1537002063, 1747873779, 1955562222, 2024104815, 2227730452, 2361852424, 2428436474, 2756734187, 3204031479, 3329325298]
theorem kTab_lt : ∀ x ∈ kTab, x < 4294967296 := by decide +kernel

def Sig0 (x : Nat) : Nat := rotr x 2 ^^^ rotr x 13 ^^^ rotr x 22
def Sig1 (x : Nat) : Nat := rotr x 6 ^^^ rotr x 11 ^^^ rotr x 25
def chf (e f g : Nat) : Nat := e &&& f ||| g &&& (4294967295 - e)
def majf (a b c : Nat) : Nat := a &&& b ||| a &&& c ||| b &&& c

/-- Eight words. -/
structure St where
  a : Nat
  b : Nat
  c : Nat
  d : Nat
  e : Nat
  f : Nat
  g : Nat
  h : Nat
structure St.ok (s : St) : Prop where
  a : s.a < 4294967296
  b : s.b < 4294967296
  c : s.c < 4294967296
  d : s.d < 4294967296
  e : s.e < 4294967296
  f : s.f < 4294967296
  g : s.g < 4294967296
  h : s.h < 4294967296
def tOne (s : St) (k w : Nat) : Nat := (s.h + Sig1 s.e + chf s.e s.f s.g + k + w) % 4294967296
def tTwo (s : St) : Nat := (Sig0 s.a + majf s.a s.b s.c) % 4294967296
def stepS (s : St) (k w : Nat) : St := ⟨(tOne s k w + tTwo s) % 4294967296, s.a, s.b, s.c, (s.d + tOne s k w) % 4294967296, s.e, s.f, s.g⟩
def rnds (s : St) (l : List Nat) : Nat → St
  | 0 => s
  | k + 1 => stepS (rnds s l k) (kTab.getD k 0) (l.getD k 0)
def addS (s v : St) : St := ⟨(s.a + v.a) % 4294967296, (s.b + v.b) % 4294967296, (s.c + v.c) % 4294967296, (s.d + v.d) % 4294967296, (s.e + v.e) % 4294967296, (s.f + v.f) % 4294967296, (s.g + v.g) % 4294967296, (s.h + v.h) % 4294967296⟩
theorem mod32_lt (n : Nat) : n % 4294967296 < 4294967296 := Nat.mod_lt _ (by decide)
theorem stepS_ok {s : St} (h : s.ok) (k w : Nat) : (stepS s k w).ok := ⟨mod32_lt _, h.a, h.b, h.c, mod32_lt _, h.e, h.f, h.g⟩
theorem rnds_ok {s : St} (h : s.ok) (l : List Nat) : ∀ k, (rnds s l k).ok
  | 0 => h
  | k + 1 => stepS_ok (rnds_ok h l k) _ _
theorem addS_ok (s v : St) : (addS s v).ok := ⟨mod32_lt _, mod32_lt _, mod32_lt _, mod32_lt _, mod32_lt _, mod32_lt _, mod32_lt _, mod32_lt _⟩
def mixS (s : St) (l : List Nat) : St := addS s (rnds s l 64)

theorem xorr_eq (a b c : Nat) (ha : a < 4294967296) (hb : b < 4294967296) (hc : c < 4294967296) :
    bits .xor .u32 (bits .xor .u32 (a : Int) (b : Int)) (c : Int) = ((a ^^^ b ^^^ c : Nat) : Int) := by
  rw [u32_xor_nat _ _ ha hb, u32_xor_nat _ _ (Nat.xor_lt_two_pow (n := 32) ha hb) hc]
theorem Sig0_eq (x : Nat) (h : x < 4294967296) : bits .xor .u32 (bits .xor .u32 (rotr x 2 : Int) (rotr x 13 : Int)) (rotr x 22 : Int) = ((Sig0 x : Nat) : Int) :=
  xorr_eq _ _ _ (rotr_lt x 2 h) (rotr_lt x 13 h) (rotr_lt x 22 h)
theorem Sig1_eq (x : Nat) (h : x < 4294967296) : bits .xor .u32 (bits .xor .u32 (rotr x 6 : Int) (rotr x 11 : Int)) (rotr x 25 : Int) = ((Sig1 x : Nat) : Int) :=
  xorr_eq _ _ _ (rotr_lt x 6 h) (rotr_lt x 11 h) (rotr_lt x 25 h)
theorem and32_lt {a b : Nat} (ha : a < 4294967296) : a &&& b < 4294967296 := Nat.lt_of_le_of_lt Nat.and_le_left ha
theorem chf_eq (e f g : Nat) (he : e < 4294967296) (hf : f < 4294967296) (hg : g < 4294967296) :
    bits .or .u32 (bits .and .u32 (e : Int) (f : Int)) (bits .andNot .u32 (g : Int) (e : Int)) = ((chf e f g : Nat) : Int) := by
  rw [u32_and_nat _ _ he hf, u32_andNot_nat _ _ hg he, u32_or_nat _ _ (and32_lt he) (and32_lt hg)]
  rfl
theorem majf_eq (a b c : Nat) (ha : a < 4294967296) (hb : b < 4294967296) (hc : c < 4294967296) :
    bits .or .u32 (bits .or .u32 (bits .and .u32 (a : Int) (b : Int)) (bits .and .u32 (a : Int) (c : Int))) (bits .and .u32 (b : Int) (c : Int)) = ((majf a b c : Nat) : Int) := by
  rw [u32_and_nat _ _ ha hb, u32_and_nat _ _ ha hc, u32_and_nat _ _ hb hc, u32_or_nat _ _ (and32_lt ha) (and32_lt ha), u32_or_nat _ _ (Nat.or_lt_two_pow (n := 32) (and32_lt ha) (and32_lt ha)) (and32_lt hb)]
  rfl
def hrow (s : St) : List Value := [uV s.a, uV s.b, uV s.c, uV s.d, uV s.e, uV s.f, uV s.g, uV s.h]

theorem ext_list (s : ByteArray) (a b : Nat) : (s.extract a b).data.toList = (s.data.toList.drop a).take (b - a) := by
  rw [ByteArray.data_extract, Array.toList_extract, List.extract_eq_take_drop]
theorem ba_eq {a b : ByteArray} (h : a.data.toList = b.data.toList) : a = b := ByteArray.ext (Array.toList_inj.1 h)
theorem ba_len (s : ByteArray) : s.data.toList.length = s.size := by simp
theorem rest_list (s : ByteArray) (a : Nat) : (s.extract a s.size).data.toList = s.data.toList.drop a := by
  rw [ext_list, List.take_of_length_le (by rw [List.length_drop, ba_len]; omega)]
theorem rest_rest (s : ByteArray) (a b : Nat) : (s.extract a s.size).extract b (s.extract a s.size).size = s.extract (a + b) s.size := by
  apply ba_eq
  rw [rest_list, rest_list, rest_list, List.drop_drop]
theorem rest_zero (s : ByteArray) : s.extract 0 s.size = s := by
  apply ba_eq
  rw [rest_list, List.drop_zero]

/-- How many bytes 0 are added to n bytes. -/
def padZ (n : Nat) : Nat := (119 - n % 64) % 64
def be8 (n k : Nat) : List UInt8 := (List.range k).map fun i => UInt8.ofNat (n / 2 ^ (56 - 8 * i))
def padB (n : Nat) : List UInt8 := 128 :: List.replicate (padZ n) 0 ++ be8 (8 * n) 8
theorem padZ_done (n j : Nat) (h : j ≤ padZ n) : ((n + (1 + j)) % 64 = 56) ↔ j = padZ n := by
  unfold padZ at h ⊢
  omega
theorem be8_succ (n k : Nat) : be8 n (k + 1) = be8 n k ++ [UInt8.ofNat (n / 2 ^ (56 - 8 * k))] := by simp [be8, List.range_succ]
theorem be8_length (n k : Nat) : (be8 n k).length = k := by simp [be8]
theorem padB_length (n : Nat) : (padB n).length = padZ n + 9 := by simp [padB, be8_length]
theorem padZ_lt (n : Nat) : padZ n < 64 := Nat.mod_lt _ (by decide)
theorem pad_more (n j : Nat) (h : j < padZ n) : (((n : Int) + (1 + (j : Int))) % 64 != 56) = true := by
  have := padZ_done n j (by omega)
  rw [bne_iff_ne]
  omega
theorem pad_done (n j : Nat) (h : j = padZ n) : (((n : Int) + (1 + (j : Int))) % 64 != 56) = false := by
  have := padZ_done n j (by omega)
  have e : ((n : Int) + (1 + (j : Int))) % 64 = 56 := by omega
  rw [e]
  rfl
theorem padRow_succ (j : Nat) : (128 :: List.replicate j (0 : UInt8)) ++ [0] = 128 :: List.replicate (j + 1) 0 := by
  rw [List.cons_append, ← List.replicate_succ']
/-- The words behind k blocks of a text. -/
def absK (h : St) (s : ByteArray) : Nat → St
  | 0 => h
  | k + 1 => mixS (absK h s k) (wk (s.extract (64 * k) s.size) 64)
theorem mixS_ok (s : St) (l : List Nat) : (mixS s l).ok := addS_ok _ _
theorem absK_ok {h : St} (s : ByteArray) (hh : h.ok) : ∀ k, (absK h s k).ok
  | 0 => hh
  | _ + 1 => mixS_ok _ _
theorem extract_next (s : ByteArray) (k : Nat) : (s.extract (64 * k) s.size).extract 64 (s.extract (64 * k) s.size).size = s.extract (64 * (k + 1)) s.size := by
  rw [rest_rest, Nat.mul_add]

def H0 : St := ⟨0x6a09e667, 0xbb67ae85, 0x3c6ef372, 0xa54ff53a, 0x510e527f, 0x9b05688c, 0x1f83d9ab, 0x5be0cd19⟩
theorem H0_ok : H0.ok := ⟨by decide, by decide, by decide, by decide, by decide, by decide, by decide, by decide⟩

def digB (x : Nat) : List UInt8 := [UInt8.ofNat (x / 16777216), UInt8.ofNat (x / 65536), UInt8.ofNat (x / 256), UInt8.ofNat x]
def St.list (s : St) : List Nat := [s.a, s.b, s.c, s.d, s.e, s.f, s.g, s.h]
def digK (s : St) (k : Nat) : List UInt8 := (s.list.take k).flatMap digB
def digest (s : St) : List UInt8 := digK s 8

def fullN (s : ByteArray) : Nat := s.size - s.size % 64
def fin1 (h : St) (s : ByteArray) : St := absK h (s.extract 0 (fullN s)) ((s.extract 0 (fullN s)).size / 64)
def lastB (s : ByteArray) (n : Nat) : ByteArray := s.extract (fullN s) s.size ++ ⟨(padB n).toArray⟩
def finS (h : St) (s : ByteArray) (n : Nat) : St := absK (fin1 h s) (lastB s n) ((lastB s n).size / 64)

theorem list_lt {s : St} (h : s.ok) (k : Nat) : s.list.getD k 0 < 4294967296 := getD_lt (l := s.list) (by
  intro x hx
  simp only [St.list, List.mem_cons, List.not_mem_nil, or_false] at hx
  rcases hx with rfl | rfl | rfl | rfl | rfl | rfl | rfl | rfl
  · exact h.a
  · exact h.b
  · exact h.c
  · exact h.d
  · exact h.e
  · exact h.f
  · exact h.g
  · exact h.h) k
theorem hrow_list (s : St) : hrow s = s.list.map uV := rfl
theorem digK_succ (s : St) (k : Nat) (hk : k < 8) : digK s (k + 1) = digK s k ++ digB (s.list.getD k 0) := by
  have hl : k < s.list.length := by simpa [St.list] using hk
  unfold digK
  rw [List.take_succ_eq_append_getElem hl, List.flatMap_append, List.getD, List.getElem?_eq_getElem hl]
  simp
theorem digK_length (s : St) : ∀ k, k ≤ 8 → (digK s k).length = 4 * k
  | 0, _ => rfl
  | k + 1, h => by
    rw [digK_succ s k (by omega), List.length_append, digK_length s k (by omega)]
    simp [digB]
    omega

/-- A text's digest. -/
def sha (s : ByteArray) : ByteArray := ⟨(digest (finS H0 s s.size)).toArray⟩

end Go.Proofs.YtphhnhldbajaoaaGreatDoor

namespace Go.Proofs.YtphhnhldbajaoaaGreatDoor
open Go.RowKit

theorem rot_2 (x : Nat) (w : World) (hx : x < 4294967296) :
    Calls Tryz.prog 181 #[.int .u32 x, .int .i64 (-2)] w fun e w' => e = .returned (.int .u32 (rotr x 2)) ∧ w = w' := by
  have hx1 : (x : Int) < 4294967296 := by omega
  have hb : bits BinOp.and IntKind.u64 (IntKind.u64.wrap (-2)) 31 = 30 := by decide +kernel
  go_enter Tryz.func181, Tryz.ntmps181
  go_wp2
  go_ret
  exact ⟨ret_int (rot_eq x 2 30 1073741824 4 hx rfl rfl (by decide)), rfl⟩

theorem right_2 (x : Nat) (w : World) (hx : x < 4294967296) :
    Calls Tryz.prog 175 #[.int .u32 x, .int .i64 2] w fun e w' => e = .returned (.int .u32 (rotr x 2)) ∧ w = w' := by
  go_enter Tryz.func175, Tryz.ntmps175
  go_wp2_with fail
  refine (rot_2 x _ hx).mono ?_
  rintro e w' ⟨rfl, rfl⟩
  go_wp2
  go_ret
  exact ⟨rfl, rfl⟩

theorem rot_6 (x : Nat) (w : World) (hx : x < 4294967296) :
    Calls Tryz.prog 181 #[.int .u32 x, .int .i64 (-6)] w fun e w' => e = .returned (.int .u32 (rotr x 6)) ∧ w = w' := by
  have hx1 : (x : Int) < 4294967296 := by omega
  have hb : bits BinOp.and IntKind.u64 (IntKind.u64.wrap (-6)) 31 = 26 := by decide +kernel
  go_enter Tryz.func181, Tryz.ntmps181
  go_wp2
  go_ret
  exact ⟨ret_int (rot_eq x 6 26 67108864 64 hx rfl rfl (by decide)), rfl⟩

theorem right_6 (x : Nat) (w : World) (hx : x < 4294967296) :
    Calls Tryz.prog 175 #[.int .u32 x, .int .i64 6] w fun e w' => e = .returned (.int .u32 (rotr x 6)) ∧ w = w' := by
  go_enter Tryz.func175, Tryz.ntmps175
  go_wp2_with fail
  refine (rot_6 x _ hx).mono ?_
  rintro e w' ⟨rfl, rfl⟩
  go_wp2
  go_ret
  exact ⟨rfl, rfl⟩

theorem rot_7 (x : Nat) (w : World) (hx : x < 4294967296) :
    Calls Tryz.prog 181 #[.int .u32 x, .int .i64 (-7)] w fun e w' => e = .returned (.int .u32 (rotr x 7)) ∧ w = w' := by
  have hx1 : (x : Int) < 4294967296 := by omega
  have hb : bits BinOp.and IntKind.u64 (IntKind.u64.wrap (-7)) 31 = 25 := by decide +kernel
  go_enter Tryz.func181, Tryz.ntmps181
  go_wp2
  go_ret
  exact ⟨ret_int (rot_eq x 7 25 33554432 128 hx rfl rfl (by decide)), rfl⟩

theorem right_7 (x : Nat) (w : World) (hx : x < 4294967296) :
    Calls Tryz.prog 175 #[.int .u32 x, .int .i64 7] w fun e w' => e = .returned (.int .u32 (rotr x 7)) ∧ w = w' := by
  go_enter Tryz.func175, Tryz.ntmps175
  go_wp2_with fail
  refine (rot_7 x _ hx).mono ?_
  rintro e w' ⟨rfl, rfl⟩
  go_wp2
  go_ret
  exact ⟨rfl, rfl⟩

theorem rot_11 (x : Nat) (w : World) (hx : x < 4294967296) :
    Calls Tryz.prog 181 #[.int .u32 x, .int .i64 (-11)] w fun e w' => e = .returned (.int .u32 (rotr x 11)) ∧ w = w' := by
  have hx1 : (x : Int) < 4294967296 := by omega
  have hb : bits BinOp.and IntKind.u64 (IntKind.u64.wrap (-11)) 31 = 21 := by decide +kernel
  go_enter Tryz.func181, Tryz.ntmps181
  go_wp2
  go_ret
  exact ⟨ret_int (rot_eq x 11 21 2097152 2048 hx rfl rfl (by decide)), rfl⟩

theorem right_11 (x : Nat) (w : World) (hx : x < 4294967296) :
    Calls Tryz.prog 175 #[.int .u32 x, .int .i64 11] w fun e w' => e = .returned (.int .u32 (rotr x 11)) ∧ w = w' := by
  go_enter Tryz.func175, Tryz.ntmps175
  go_wp2_with fail
  refine (rot_11 x _ hx).mono ?_
  rintro e w' ⟨rfl, rfl⟩
  go_wp2
  go_ret
  exact ⟨rfl, rfl⟩

theorem rot_13 (x : Nat) (w : World) (hx : x < 4294967296) :
    Calls Tryz.prog 181 #[.int .u32 x, .int .i64 (-13)] w fun e w' => e = .returned (.int .u32 (rotr x 13)) ∧ w = w' := by
  have hx1 : (x : Int) < 4294967296 := by omega
  have hb : bits BinOp.and IntKind.u64 (IntKind.u64.wrap (-13)) 31 = 19 := by decide +kernel
  go_enter Tryz.func181, Tryz.ntmps181
  go_wp2
  go_ret
  exact ⟨ret_int (rot_eq x 13 19 524288 8192 hx rfl rfl (by decide)), rfl⟩

theorem right_13 (x : Nat) (w : World) (hx : x < 4294967296) :
    Calls Tryz.prog 175 #[.int .u32 x, .int .i64 13] w fun e w' => e = .returned (.int .u32 (rotr x 13)) ∧ w = w' := by
  go_enter Tryz.func175, Tryz.ntmps175
  go_wp2_with fail
  refine (rot_13 x _ hx).mono ?_
  rintro e w' ⟨rfl, rfl⟩
  go_wp2
  go_ret
  exact ⟨rfl, rfl⟩

theorem rot_17 (x : Nat) (w : World) (hx : x < 4294967296) :
    Calls Tryz.prog 181 #[.int .u32 x, .int .i64 (-17)] w fun e w' => e = .returned (.int .u32 (rotr x 17)) ∧ w = w' := by
  have hx1 : (x : Int) < 4294967296 := by omega
  have hb : bits BinOp.and IntKind.u64 (IntKind.u64.wrap (-17)) 31 = 15 := by decide +kernel
  go_enter Tryz.func181, Tryz.ntmps181
  go_wp2
  go_ret
  exact ⟨ret_int (rot_eq x 17 15 32768 131072 hx rfl rfl (by decide)), rfl⟩

theorem right_17 (x : Nat) (w : World) (hx : x < 4294967296) :
    Calls Tryz.prog 175 #[.int .u32 x, .int .i64 17] w fun e w' => e = .returned (.int .u32 (rotr x 17)) ∧ w = w' := by
  go_enter Tryz.func175, Tryz.ntmps175
  go_wp2_with fail
  refine (rot_17 x _ hx).mono ?_
  rintro e w' ⟨rfl, rfl⟩
  go_wp2
  go_ret
  exact ⟨rfl, rfl⟩

theorem rot_18 (x : Nat) (w : World) (hx : x < 4294967296) :
    Calls Tryz.prog 181 #[.int .u32 x, .int .i64 (-18)] w fun e w' => e = .returned (.int .u32 (rotr x 18)) ∧ w = w' := by
  have hx1 : (x : Int) < 4294967296 := by omega
  have hb : bits BinOp.and IntKind.u64 (IntKind.u64.wrap (-18)) 31 = 14 := by decide +kernel
  go_enter Tryz.func181, Tryz.ntmps181
  go_wp2
  go_ret
  exact ⟨ret_int (rot_eq x 18 14 16384 262144 hx rfl rfl (by decide)), rfl⟩

theorem right_18 (x : Nat) (w : World) (hx : x < 4294967296) :
    Calls Tryz.prog 175 #[.int .u32 x, .int .i64 18] w fun e w' => e = .returned (.int .u32 (rotr x 18)) ∧ w = w' := by
  go_enter Tryz.func175, Tryz.ntmps175
  go_wp2_with fail
  refine (rot_18 x _ hx).mono ?_
  rintro e w' ⟨rfl, rfl⟩
  go_wp2
  go_ret
  exact ⟨rfl, rfl⟩

theorem rot_19 (x : Nat) (w : World) (hx : x < 4294967296) :
    Calls Tryz.prog 181 #[.int .u32 x, .int .i64 (-19)] w fun e w' => e = .returned (.int .u32 (rotr x 19)) ∧ w = w' := by
  have hx1 : (x : Int) < 4294967296 := by omega
  have hb : bits BinOp.and IntKind.u64 (IntKind.u64.wrap (-19)) 31 = 13 := by decide +kernel
  go_enter Tryz.func181, Tryz.ntmps181
  go_wp2
  go_ret
  exact ⟨ret_int (rot_eq x 19 13 8192 524288 hx rfl rfl (by decide)), rfl⟩

theorem right_19 (x : Nat) (w : World) (hx : x < 4294967296) :
    Calls Tryz.prog 175 #[.int .u32 x, .int .i64 19] w fun e w' => e = .returned (.int .u32 (rotr x 19)) ∧ w = w' := by
  go_enter Tryz.func175, Tryz.ntmps175
  go_wp2_with fail
  refine (rot_19 x _ hx).mono ?_
  rintro e w' ⟨rfl, rfl⟩
  go_wp2
  go_ret
  exact ⟨rfl, rfl⟩

theorem rot_22 (x : Nat) (w : World) (hx : x < 4294967296) :
    Calls Tryz.prog 181 #[.int .u32 x, .int .i64 (-22)] w fun e w' => e = .returned (.int .u32 (rotr x 22)) ∧ w = w' := by
  have hx1 : (x : Int) < 4294967296 := by omega
  have hb : bits BinOp.and IntKind.u64 (IntKind.u64.wrap (-22)) 31 = 10 := by decide +kernel
  go_enter Tryz.func181, Tryz.ntmps181
  go_wp2
  go_ret
  exact ⟨ret_int (rot_eq x 22 10 1024 4194304 hx rfl rfl (by decide)), rfl⟩

theorem right_22 (x : Nat) (w : World) (hx : x < 4294967296) :
    Calls Tryz.prog 175 #[.int .u32 x, .int .i64 22] w fun e w' => e = .returned (.int .u32 (rotr x 22)) ∧ w = w' := by
  go_enter Tryz.func175, Tryz.ntmps175
  go_wp2_with fail
  refine (rot_22 x _ hx).mono ?_
  rintro e w' ⟨rfl, rfl⟩
  go_wp2
  go_ret
  exact ⟨rfl, rfl⟩

theorem rot_25 (x : Nat) (w : World) (hx : x < 4294967296) :
    Calls Tryz.prog 181 #[.int .u32 x, .int .i64 (-25)] w fun e w' => e = .returned (.int .u32 (rotr x 25)) ∧ w = w' := by
  have hx1 : (x : Int) < 4294967296 := by omega
  have hb : bits BinOp.and IntKind.u64 (IntKind.u64.wrap (-25)) 31 = 7 := by decide +kernel
  go_enter Tryz.func181, Tryz.ntmps181
  go_wp2
  go_ret
  exact ⟨ret_int (rot_eq x 25 7 128 33554432 hx rfl rfl (by decide)), rfl⟩

theorem right_25 (x : Nat) (w : World) (hx : x < 4294967296) :
    Calls Tryz.prog 175 #[.int .u32 x, .int .i64 25] w fun e w' => e = .returned (.int .u32 (rotr x 25)) ∧ w = w' := by
  go_enter Tryz.func175, Tryz.ntmps175
  go_wp2_with fail
  refine (rot_25 x _ hx).mono ?_
  rintro e w' ⟨rfl, rfl⟩
  go_wp2
  go_ret
  exact ⟨rfl, rfl⟩

theorem right_any (x : Nat) (m : Int) (w : World) (hx : x < 4294967296) (hm : m = 2 ∨ m = 6 ∨ m = 7 ∨ m = 11 ∨ m = 13 ∨ m = 17 ∨ m = 18 ∨ m = 19 ∨ m = 22 ∨ m = 25) :
    Calls Tryz.prog 175 #[.int .u32 x, .int .i64 m] w fun e w' => e = .returned (.int .u32 (rotr x m.toNat)) ∧ w = w' := by
  rcases hm with rfl | rfl | rfl | rfl | rfl | rfl | rfl | rfl | rfl | rfl
  · exact right_2 x w hx
  · exact right_6 x w hx
  · exact right_7 x w hx
  · exact right_11 x w hx
  · exact right_13 x w hx
  · exact right_17 x w hx
  · exact right_18 x w hx
  · exact right_19 x w hx
  · exact right_22 x w hx
  · exact right_25 x w hx
end Go.Proofs.YtphhnhldbajaoaaGreatDoor

namespace Go.Proofs.YtphhnhldbajaoaaGreatDoor

theorem still1 {P : Program} {f : FuncId} {args : Array Value} {w : World} {n : Nat} {v : Value} (h : ∀ W : World, Calls P f args W fun e w' => e = .returned v ∧ W = w') :
    Calls P f args (w.drewN n) fun e w'' => e = .returned v ∧ ∃ m, w'' = w.drewN m := (h _).mono fun _ _ hh => ⟨hh.1, n, hh.2.symm⟩
theorem still2 {P : Program} {f : FuncId} {args : Array Value} {w : World} {a n : Nat} {v : Value} (h : ∀ W : World, Calls P f args W fun e w' => e = .returned v ∧ W = w') :
    Calls P f args (w.drewN (a + n)) fun e w'' => e = .returned v ∧ ∃ m, w'' = w.drewN (a + m) := (h _).mono fun _ _ hh => ⟨hh.1, n, hh.2.symm⟩
end Go.Proofs.YtphhnhldbajaoaaGreatDoor

namespace Go.Proofs.YtphhnhldbajaoaaGreatDoor
open Go.RowKit

/-- Block b is an array of 64 words. -/
def WAt (w : World) (b : Nat) (l : List Nat) : Prop := w.heap[b]? = some (.cells (wrow l).toArray 233 (0, 0))

theorem WAt.cell {w : World} {b : Nat} {l : List Nat} (h : WAt w b l) {i : Nat} (hi : i < l.length) : w.cell? ⟨b, i, none⟩ = some (.int .u32 (l.getD i 0 : Nat)) := by
  rw [cell_of_row w b i _ _ _ h, List.getElem?_toArray, wrow_get l i hi]
  rfl
theorem WAt.next {w : World} {b : Nat} {l : List Nat} (h : WAt w b l) (hl : l.length < 64) : w.cell? ⟨b, l.length, none⟩ = some (.int .u32 0) := by
  rw [cell_of_row w b _ _ _ _ h, List.getElem?_toArray, wrow_zero l hl]
  rfl
theorem WAt.free {w : World} {b : Nat} {l : List Nat} (h : WAt w b l) (i : Nat) : w.frozen? ⟨b, i, none⟩ = false := frozen_of_row w b i _ _ h
theorem WAt.set {w : World} {b : Nat} {l : List Nat} (h : WAt w b l) (hl : l.length < 64) (x : Nat) {u : Value} (hu : u = uV x) {k : Nat} (hk : k = l.length) : WAt (w.setCell ⟨b, k, none⟩ u) b (l ++ [x]) := by
  subst hu hk
  have := heap_setCell_same w b l.length _ _ (uV x) h
  unfold WAt
  rw [this, List.setIfInBounds_toArray, wrow_set l x hl]
theorem info64 : (Tryz.prog.info? 233).map (·.size) = some 64 := by kernel_rfl
theorem wrow_one (l : List Nat) : (wrow l).toArray.all (·.oneCell') = true := by
  rw [List.all_toArray, List.all_eq_true]
  intro x hx
  unfold wrow at hx
  rcases List.mem_append.1 hx with h | h
  · obtain ⟨n, _, rfl⟩ := List.mem_map.1 h
    rfl
  · rw [(List.mem_replicate.1 h).2]; rfl
theorem belowRow (B b : Nat) (w : World) (cs : Array Value) (h : B ≤ b) : Below B w (w.setRow b cs) :=
  ⟨rfl, rfl, rfl, by simp, fun k hk => setRow_other w b k cs (by omega)⟩
theorem belowUp (B b i : Nat) (w : World) (v : Value) (h : B ≤ b) : Below B w (w.setCell ⟨b, i, none⟩ v) := (Below.refl B w).setCell (p := ⟨b, i, none⟩) h v

set_option maxHeartbeats 1000000 in
theorem sched_any (s : ByteArray) (w : World) (hs : 64 ≤ s.size) : Calls Tryz.prog 167 #[.string s] w fun e w' => e = .returned (.agg (wrow (wk s 64)).toArray) ∧ Below w.heap.size w w' := by
  have hbt := byN_get s
  go_enter Tryz.func167, Tryz.ntmps167
  go_wp2
  go_loopw [8] (fun i wr => ∃ k : Nat, k ≤ 16 ∧ i = .int .i64 k ∧ Hid (WAt wr (w.heap.size + 1) (wk s k)) ∧ Hid (WAt wr w.heap.size []) ∧ Hid (Below w.heap.size w wr)) (fun i _ => 16 - (RowKit.intOf i).toNat)
  case atStart => exact ⟨0, Nat.zero_le _, rfl, (heap_alloc2_new w _ _).trans rfl, (heap_alloc2_old w _ _).trans rfl, ((Below.refl _ _).alloc (Nat.le_refl _) _).alloc (by simp) _⟩
  case round =>
    obtain ⟨k, hk, rfl, HW, HZ, HL⟩ := hrel
    by_cases hlt : k < 16
    · have hl := wk_length s k
      have hc := HW.out.next (by omega)
      have hf := HW.out.free k
      rw [hl] at hc
      clear hl
      have b0 := byN_lt s (4 * k)
      have b1 := byN_lt s (4 * k + 1)
      have b2 := byN_lt s (4 * k + 2)
      have b3 := byN_lt s (4 * k + 3)
      go_wp2
      go_region
      go_wp2
      go_roundw
      case rel =>
        have hl := wk_length s k
        exact ⟨k + 1, by omega, by go_num, HW.out.set (by omega) (wnext s (wk s k) k) (by rw [be4_eq]; unfold wnext; rw [if_pos hlt]; rfl) hl.symm,
          (heap_setCell_other wr ⟨w.heap.size + 1, k, none⟩ w.heap.size _ (by simp)).trans HZ.out, HL.out.trans (belowUp w.heap.size (w.heap.size + 1) k wr _ (by omega)).drew⟩
      case measure => simp [RowKit.intOf]; omega
    · have hk16 : k = 16 := by omega
      subst hk16
      go_wp2
      go_loopw [5] (fun i wr => ∃ k : Nat, 16 ≤ k ∧ k ≤ 64 ∧ i = .int .i64 k ∧ Hid (WAt wr (w.heap.size + 1) (wk s k)) ∧ Hid (WAt wr w.heap.size []) ∧ Hid (Below w.heap.size w wr)) (fun i _ => 64 - (RowKit.intOf i).toNat)
      case atStart => exact ⟨16, by omega, by omega, rfl, HW, HZ, HL⟩
      case round =>
        clear HW HZ HL
        obtain ⟨k, hk0, hk, rfl, HW, HZ, HL⟩ := hrel
        by_cases hlt : k < 64
        · have hl := wk_length s k
          have c15 := HW.out.cell (i := k - 15) (by omega)
          have c2 := HW.out.cell (i := k - 2) (by omega)
          have c7 := HW.out.cell (i := k - 7) (by omega)
          have c16 := HW.out.cell (i := k - 16) (by omega)
          have hc := HW.out.next (by omega)
          have hf := HW.out.free k
          rw [hl] at hc
          have l15 := getD_lt (wk_lt s k) (k - 15)
          have l2 := getD_lt (wk_lt s k) (k - 2)
          have l7 := getD_lt (wk_lt s k) (k - 7)
          have l16 := getD_lt (wk_lt s k) (k - 16)
          have HN : Hid (wnext s (wk s k) k = _) := if_neg (by omega)
          generalize (wk s k).getD (k - 15) 0 = x15 at *
          generalize (wk s k).getD (k - 2) 0 = x2 at *
          generalize (wk s k).getD (k - 7) 0 = x7 at *
          generalize (wk s k).getD (k - 16) 0 = x16 at *
          clear hl
          go_wp2
          go_quiet ((go_at_call 175; exact still1 fun _ => right_any x15 _ _ l15 (by decide)))
          go_wp2
          go_quiet ((go_at_call 175; exact still2 fun _ => right_any x2 _ _ l2 (by decide)))
          go_wp2
          go_region
          go_wp2
          go_roundw
          case rel =>
            have hl := wk_length s k
            exact ⟨k + 1, by omega, by omega, by go_num, WAt.set (w := wr.drewN _) HW.out (by omega) (wnext s (wk s k) k) (by rw [sig1_eq x2 l2, sig0_eq x15 l15, HN.out]; unfold uV; congr 1) hl.symm,
              (heap_setCell_other (wr.drewN _) ⟨w.heap.size + 1, k, none⟩ w.heap.size _ (by simp)).trans HZ.out, (below_drewN HL.out _).trans (belowUp w.heap.size (w.heap.size + 1) k _ _ (by omega))⟩
          case measure => simp [RowKit.intOf]; omega
        · have hk64 : k = 64 := by omega
          subst hk64
          have hz : (wrow (wk s 64)).toArray.size = 64 := by rw [List.size_toArray, wrow_length _ (by rw [wk_length]; omega)]
          have hi : (Tryz.prog.info? 233).map (·.size) = some (wrow (wk s 64)).toArray.size := by rw [hz]; exact info64
          have hone : (wrow (wk s 64)).toArray.all (·.oneCell') = true := wrow_one _
          have hw : (wrow []).toArray.size = (wrow (wk s 64)).toArray.size := by rw [hz, List.size_toArray, wrow_length _ (Nat.zero_le _)]
          go_wp2_with (first
            | (refine wpList_load_row rfl 233 (.tmp 3) rfl (w.heap.size + 1) rfl _ _ _ _ HW.out Tryz.underlying233 rfl hi ?_)
            | (refine wpList_store_row rfl 233 (.tmp 2) (.tmp 96) rfl w.heap.size _ rfl rfl _ _ HZ.out hi hw hone ?_))
          refine bodyPost_ret (v := .agg (wrow (wk s 64)).toArray) (results_cell_row (p := 2) (ty := 233) rfl _ _ w.heap.size 233 _ (0, 0) _ rfl (setRow_heap _ _ _ _ _ _ HZ.out) Tryz.underlying233 rfl hi) rfl ⟨rfl, HL.out.trans (belowRow _ _ _ _ (Nat.le_refl _))⟩
end Go.Proofs.YtphhnhldbajaoaaGreatDoor
