/-
  Texts put together: ClogQ, ClogLiveA.
-/
import Derived.Test.YtljjcchdhnficaaDoorClogJ
import Derived.Test.YtljjcchdhnficaaDoorMg8
namespace Go.Proofs.YtljjcchdhnficaaDoor
open Go.RowKit

theorem vL_at {A B C : List UInt8} {k n : Nat} (h : A.length = k) (hB : B.length = n) : vL (A ++ (B ++ C)) k n = B := by
  rw [vL_skip h (Nat.le_refl _), Nat.sub_self]
  exact vL_here hB
theorem valB_at {s : ByteArray} {A B C : List UInt8} {k n : Nat} (h : bl s = A ++ (B ++ C)) (hk : A.length = k) (hn : B.length = n) : bl (valB s k n) = B := by
  have hz : s.size = k + (n + C.length) := by rw [← bl_size, h, List.length_append, List.length_append, hk, hn]
  rw [valB_bl s k n (by omega), h]
  exact vL_at hk hn
theorem valN_at {s : ByteArray} {A C : List UInt8} {k n v : Nat} (h : bl s = A ++ (leList v n ++ C)) (hk : A.length = k) (hv : v < 256 ^ n) : valN s k n = v := by
  have hz : s.size = k + (n + C.length) := by rw [← bl_size, h, List.length_append, List.length_append, hk, leList_length]
  rw [valN_bl s k n (by omega), h, vL_at hk (leList_length v n)]
  exact leVal_leL v n hv
def entL (x : CgE) : List UInt8 := leList x.key.size 1 ++ (bl x.key ++ (bl x.sum ++ (leList x.len.toNat 2 ++ leList x.pos.toNat 2)))
theorem entL_len {x : CgE} (h : MayC x) : (entL x).length = 1 + x.key.size + 32 + 2 + 2 := by
  unfold entL
  simp only [List.length_append, leList_length, bl_size, h.2.2.1]
  omega
theorem put_int {n : Int} (w : Nat) (h0 : 0 ≤ n) (h1 : 1 ≤ w) (h7 : w ≤ 7) (h : n.toNat < 256 ^ w) : bl (putB n (w : Nat)) = leList n.toNat w := by
  have := putB_bl n.toNat w h1 h7 h
  rwa [show ((n.toNat : Nat) : Int) = n by omega] at this
theorem entB_bl {x : CgE} (h : MayC x) : bl (entB x) = entL x := by
  obtain ⟨h1, h2, h3, h4, h5, h6, h7⟩ := h
  unfold entB entL
  rw [bl_append, bl_append, bl_append]
  have ht : bl (textB x.key 1) = leList x.key.size 1 ++ bl x.key := by
    unfold textB
    have hm : mostI 1 = 255 := rfl
    rw [if_neg (by rw [hm]; omega), bl_append]
    have := putB_bl x.key.size 1 (by decide) (by decide) (by show _ < 256; omega)
    rw [← this]
    rfl
  have hl : bl (putB x.len 2) = leList x.len.toNat 2 := put_int 2 h4 (by decide) (by decide) (by show _ < 65536; omega)
  have hp : bl (putB x.pos 2) = leList x.pos.toNat 2 := put_int 2 h6 (by decide) (by decide) (by show _ < 65536; omega)
  rw [ht, hl, hp]
  simp only [List.append_assoc]
theorem entsK_bl : ∀ (l : List CgE) (acc : ByteArray), (∀ x ∈ l, MayC x) → bl (entsK acc l) = bl acc ++ l.flatMap entL
  | [], acc, _ => by simp [entsK]
  | x :: r, acc, h => by
    have ih := entsK_bl r (acc ++ entB x) (fun y hy => h y (List.mem_cons_of_mem _ hy))
    show bl (entsK (acc ++ entB x) r) = _
    rw [ih, bl_append, entB_bl (h x List.mem_cons_self), List.flatMap_cons, List.append_assoc]
theorem headC_bl {seq : Int} {n : Nat} (h0 : 0 ≤ seq) (h1 : seq ≤ 1099511627776) (hn : n ≤ 7) : bl (headC seq n) = [80, 76] ++ (leList seq.toNat 6 ++ leList n 1) := by
  unfold headC
  rw [bl_append, bl_append]
  have hs : bl (putB seq 6) = leList seq.toNat 6 := put_int 6 h0 (by decide) (by decide) (by show _ < 281474976710656; omega)
  have hc : bl (putB n 1) = leList n 1 := putB_bl n 1 (by decide) (by decide) (by show _ < 256; omega)
  rw [hs, hc, List.append_assoc]
  rfl
theorem entAt_bl {b : ByteArray} {k : Nat} {x : CgE} {A R : List UInt8} (hx : MayC x) (h : bl b = A ++ (entL x ++ R)) (hk : A.length = k) : entAt b k = x ∧ entTo b k = k + (entL x).length := by
  have hm := hx
  obtain ⟨h1, h2, h3, h4, h5, h6, h7⟩ := hx
  have e1 : bl b = A ++ (leList x.key.size 1 ++ (bl x.key ++ (bl x.sum ++ (leList x.len.toNat 2 ++ (leList x.pos.toNat 2 ++ R))))) := by
    rw [h]; unfold entL; simp only [List.append_assoc]
  have hn1 : valN b k 1 = x.key.size := valN_at e1 hk (by show _ < 256; omega)
  have e2 : bl b = (A ++ leList x.key.size 1) ++ (bl x.key ++ (bl x.sum ++ (leList x.len.toNat 2 ++ (leList x.pos.toNat 2 ++ R)))) := by rw [e1]; simp only [List.append_assoc]
  have l2 : (A ++ leList x.key.size 1).length = k + 1 := by rw [List.length_append, leList_length, hk]
  have hk1 : valB b (k + 1) x.key.size = x.key := bl_ext (valB_at e2 l2 (bl_size _))
  have e3 : bl b = ((A ++ leList x.key.size 1) ++ bl x.key) ++ (bl x.sum ++ (leList x.len.toNat 2 ++ (leList x.pos.toNat 2 ++ R))) := by rw [e2]; simp only [List.append_assoc]
  have l3 : ((A ++ leList x.key.size 1) ++ bl x.key).length = k + 1 + x.key.size := by rw [List.length_append, l2, bl_size]
  have hs1 : valB b (k + 1 + x.key.size) 32 = x.sum := bl_ext (valB_at e3 l3 (by rw [bl_size, h3]))
  have e4 : bl b = (((A ++ leList x.key.size 1) ++ bl x.key) ++ bl x.sum) ++ (leList x.len.toNat 2 ++ (leList x.pos.toNat 2 ++ R)) := by rw [e3]; simp only [List.append_assoc]
  have l4 : (((A ++ leList x.key.size 1) ++ bl x.key) ++ bl x.sum).length = k + 1 + x.key.size + 32 := by rw [List.length_append, l3, bl_size, h3]
  have hn2 : valN b (k + 1 + x.key.size + 32) 2 = x.len.toNat := valN_at e4 l4 (by show _ < 65536; omega)
  have e5 : bl b = ((((A ++ leList x.key.size 1) ++ bl x.key) ++ bl x.sum) ++ leList x.len.toNat 2) ++ (leList x.pos.toNat 2 ++ R) := by rw [e4]; simp only [List.append_assoc]
  have l5 : ((((A ++ leList x.key.size 1) ++ bl x.key) ++ bl x.sum) ++ leList x.len.toNat 2).length = k + 1 + x.key.size + 32 + 2 := by rw [List.length_append, l4, leList_length]
  have hn3 : valN b (k + 1 + x.key.size + 32 + 2) 2 = x.pos.toNat := valN_at e5 l5 (by show _ < 65536; omega)
  constructor
  · unfold entAt
    rw [hn1, hk1, hs1, hn2, hn3]
    obtain ⟨xk, xs, xn, xp⟩ := x
    simp only at h4 h6 ⊢
    rw [show ((xn.toNat : Nat) : Int) = xn by omega, show ((xp.toNat : Nat) : Int) = xp by omega]
  · unfold entTo
    rw [hn1, entL_len hm]
    omega
theorem ents_back {b : ByteArray} {A : List UInt8} {l : List CgE} (hA : A.length = 9) (ha : ∀ x ∈ l, MayC x) (h : bl b = A ++ l.flatMap entL) :
    ∀ j, j ≤ l.length → entsTo b j = l.take j ∧ posTo b j = 9 + ((l.take j).flatMap entL).length
  | 0, _ => by simp [entsTo, posTo]
  | j + 1, hj => by
    obtain ⟨h1, h2⟩ := ents_back hA ha h j (by omega)
    have hlt : j < l.length := by omega
    have hx := ha _ (List.getElem_mem hlt)
    have hs : l.take (j + 1) = l.take j ++ [l[j]] := List.take_succ_eq_append_getElem hlt
    have e : bl b = (A ++ (l.take j).flatMap entL) ++ (entL l[j] ++ (l.drop (j + 1)).flatMap entL) := by
      rw [h, List.append_assoc]
      congr 1
      conv => lhs; rw [← List.take_append_drop j l, List.flatMap_append, List.drop_eq_getElem_cons hlt, List.flatMap_cons]
    have he := entAt_bl hx e (k := posTo b j) (by rw [List.length_append, hA, h2])
    constructor
    · rw [entsTo, h1, he.1, hs]
    · rw [posTo, he.2, h2, hs, List.flatMap_append, List.length_append]
      simp only [List.flatMap_cons, List.flatMap_nil, List.append_nil]
      omega
theorem enc_back {seq : Int} {l : List CgE} (h : chkC seq l = 0) : decC (encC seq l).1 = ((seq, l), 0) ∧ (encC seq l).2 = 0 ∧ (encC seq l).1.size = 41 + (l.flatMap entL).length := by
  obtain ⟨h0, h1, h7, ha⟩ := chkC_zero h
  have hE : encC seq l = (bodyC seq l ++ sha (bodyC seq l), 0) := if_pos h
  have hb : bl (bodyC seq l) = ([80, 76] ++ (leList seq.toNat 6 ++ leList l.length 1)) ++ l.flatMap entL := by
    unfold bodyC
    rw [entsK_bl l _ ha, headC_bl h0 h1 h7]
  have hA : ([80, 76] ++ (leList seq.toNat 6 ++ leList l.length 1) : List UInt8).length = 9 := by simp [leList_length]
  have hz : (bodyC seq l).size = 9 + (l.flatMap entL).length := by rw [← bl_size, hb, List.length_append, hA]
  have hsz := sha_size' (bodyC seq l)
  have hs : (bodyC seq l ++ sha (bodyC seq l)).size = 41 + (l.flatMap entL).length := by rw [ByteArray.size_append, hz, hsz]; omega
  refine ⟨?_, by rw [hE], by rw [hE]; exact hs⟩
  rw [hE]
  show decC (bodyC seq l ++ sha (bodyC seq l)) = _
  have d1 : bdyC (bodyC seq l ++ sha (bodyC seq l)) = bodyC seq l := by
    unfold bdyC
    rw [hs]
    apply bl_ext
    unfold bl
    rw [ByteArray.data_extract, Array.toList_extract, ByteArray.data_append, Array.toList_append]
    simp only [List.extract_eq_take_drop, List.drop_zero]
    have : (bodyC seq l).data.toList.length = 41 + (l.flatMap entL).length - 32 - 0 := by
      rw [show (bodyC seq l).data.toList.length = (bodyC seq l).size from bl_size _, hz]; omega
    rw [← this]
    exact List.take_left' rfl
  have d2 : digC (bodyC seq l ++ sha (bodyC seq l)) = sha (bodyC seq l) := by
    unfold digC
    rw [hs]
    apply bl_ext
    unfold bl
    rw [ByteArray.data_extract, Array.toList_extract, ByteArray.data_append, Array.toList_append]
    simp only [List.extract_eq_take_drop]
    have h1 : (bodyC seq l).data.toList.length = 41 + (l.flatMap entL).length - 32 := by
      rw [show (bodyC seq l).data.toList.length = (bodyC seq l).size from bl_size _, hz]; omega
    have h2 : (sha (bodyC seq l)).data.toList.length = 32 := by
      rw [show (sha (bodyC seq l)).data.toList.length = (sha (bodyC seq l)).size from bl_size _, hsz]
    rw [← h1, List.drop_left' rfl]
    exact List.take_of_length_le (by omega)
  unfold decC
  rw [if_neg (by rw [hs]; omega), d1, d2, if_neg (by simp)]
  have v0 : valB (bodyC seq l) 0 2 = markC := by
    apply bl_ext
    exact valB_at (A := []) (B := [80, 76]) (C := leList seq.toNat 6 ++ (leList l.length 1 ++ l.flatMap entL)) (by rw [hb]; simp only [List.nil_append, List.append_assoc]) rfl rfl
  have v1 : valN (bodyC seq l) 2 6 = seq.toNat :=
    valN_at (A := [80, 76]) (C := leList l.length 1 ++ l.flatMap entL) (by rw [hb]; simp only [List.append_assoc]) rfl (by show _ < 281474976710656; omega)
  have v2 : valN (bodyC seq l) 8 1 = l.length :=
    valN_at (A := [80, 76] ++ leList seq.toNat 6) (C := l.flatMap entL) (by rw [hb]; simp only [List.append_assoc]) (by simp [leList_length]) (by show _ < 256; omega)
  obtain ⟨w1, w2⟩ := ents_back hA ha hb l.length (Nat.le_refl _)
  rw [List.take_length] at w1 w2
  rw [v0, v1, v2, w1, w2, show ((seq.toNat : Nat) : Int) = seq by omega, if_neg]
  rintro (h | h | h)
  · exact h rfl
  · exact h (posEnd_end _ _ hz)
  · exact h (by assumption)
end Go.Proofs.YtljjcchdhnficaaDoor

namespace Go.Proofs.YtljjcchdhnficaaDoor
open Go.RowKit Go.ChangeShapes Go.WideShapes Go.ChangeAt

abbrev DD : ByteArray := ⟨#[48, 49, 50, 51, 52, 53, 54, 55, 56, 57, 97, 98, 99, 100, 101, 102, 48, 49, 50, 51, 52, 53, 54, 55, 56, 57, 97, 98, 99, 100, 101, 102]⟩
abbrev E1 : CgE := ⟨⟨#[107]⟩, DD, 5, 9⟩
abbrev E2 : CgE := ⟨⟨#[107]⟩, DD, 6, 9⟩
abbrev E3 : CgE := ⟨⟨#[108]⟩, DD, 7, 1⟩
/-- The two blocks of live. -/
structure LvJ (g : Nat) (W : World) : Prop where
  s1 : SlC W (some ⟨g, 0, none⟩) [E1]
  b1 : Box W (g + 1) 32 #[.int .i64 3, .slice (some ⟨g, 0, none⟩) 1 1]
  s2 : SlC W (some ⟨g + 1 + 1, 0, none⟩) [E2, E3]
  b2 : Box W (g + 1 + 1 + 1) 32 #[.int .i64 2, .slice (some ⟨g + 1 + 1, 0, none⟩) 2 2]
theorem LvJ.keep {g : Nat} {W W' : World} (h : LvJ g W) (hb : Below W.heap.size W W') : LvJ g W' := ⟨h.s1.keep hb, h.b1.keep hb h.b1.lt, h.s2.keep hb, h.b2.keep hb h.b2.lt⟩
theorem slc_of_box {W : World} {g : Nat} {t : TypeId} {l : List CgE} {cs : Array Value} (h : Box W g t cs) (he : cs.toList = l.flatMap cgL) : SlC W (some ⟨g, 0, none⟩) l := fun _ => ⟨g, 0, rfl, h.lt, fun i x hx j u hj => by
  have hi : i < l.length := (List.getElem?_eq_some_iff.1 hx).1
  have hj4 : j < 4 := (List.getElem?_eq_some_iff.1 hj).1
  have h0 := flat_get cgL 4 (fun _ => rfl) l i x hx j hj4
  refine h.cell (0 + i * 4 + j) u ?_
  rw [← Array.getElem?_toList, he, Nat.zero_add, h0]
  exact hj⟩
theorem lv_new (w : World) : LvJ w.heap.size ((((w.alloc (.cells #[.string ⟨#[107]⟩, .string ⟨#[48, 49, 50, 51, 52, 53, 54, 55, 56, 57, 97, 98, 99, 100, 101, 102, 48, 49, 50, 51, 52, 53, 54, 55, 56, 57, 97, 98, 99, 100, 101, 102]⟩, .int .i64 5, .int .i64 9] 54)).alloc (.cells #[.int .i64 3, .slice (some ⟨w.heap.size, 0, none⟩) 1 1] 32)).alloc (.cells #[.string ⟨#[107]⟩, .string ⟨#[48, 49, 50, 51, 52, 53, 54, 55, 56, 57, 97, 98, 99, 100, 101, 102, 48, 49, 50, 51, 52, 53, 54, 55, 56, 57, 97, 98, 99, 100, 101, 102]⟩, .int .i64 6, .int .i64 9, .string ⟨#[108]⟩, .string ⟨#[48, 49, 50, 51, 52, 53, 54, 55, 56, 57, 97, 98, 99, 100, 101, 102, 48, 49, 50, 51, 52, 53, 54, 55, 56, 57, 97, 98, 99, 100, 101, 102]⟩, .int .i64 7, .int .i64 1] 54)).alloc (.cells #[.int .i64 2, .slice (some ⟨w.heap.size + 1 + 1, 0, none⟩) 2 2] 32)) ∧ Below w.heap.size w ((((w.alloc (.cells #[.string ⟨#[107]⟩, .string ⟨#[48, 49, 50, 51, 52, 53, 54, 55, 56, 57, 97, 98, 99, 100, 101, 102, 48, 49, 50, 51, 52, 53, 54, 55, 56, 57, 97, 98, 99, 100, 101, 102]⟩, .int .i64 5, .int .i64 9] 54)).alloc (.cells #[.int .i64 3, .slice (some ⟨w.heap.size, 0, none⟩) 1 1] 32)).alloc (.cells #[.string ⟨#[107]⟩, .string ⟨#[48, 49, 50, 51, 52, 53, 54, 55, 56, 57, 97, 98, 99, 100, 101, 102, 48, 49, 50, 51, 52, 53, 54, 55, 56, 57, 97, 98, 99, 100, 101, 102]⟩, .int .i64 6, .int .i64 9, .string ⟨#[108]⟩, .string ⟨#[48, 49, 50, 51, 52, 53, 54, 55, 56, 57, 97, 98, 99, 100, 101, 102, 48, 49, 50, 51, 52, 53, 54, 55, 56, 57, 97, 98, 99, 100, 101, 102]⟩, .int .i64 7, .int .i64 1] 54)).alloc (.cells #[.int .i64 2, .slice (some ⟨w.heap.size + 1 + 1, 0, none⟩) 2 2] 32)) := by
  refine ⟨⟨?_, ?_, ?_, ?_⟩, ?_⟩
  · exact (((slc_of_box (Box.new w _ _) rfl).keep ((Below.refl _ _).alloc (Nat.le_refl _) _)).keep ((Below.refl _ _).alloc (Nat.le_refl _) _)).keep ((Below.refl _ _).alloc (Nat.le_refl _) _)
  · have := Box.new (w.alloc (.cells #[.string ⟨#[107]⟩, .string ⟨#[48, 49, 50, 51, 52, 53, 54, 55, 56, 57, 97, 98, 99, 100, 101, 102, 48, 49, 50, 51, 52, 53, 54, 55, 56, 57, 97, 98, 99, 100, 101, 102]⟩, .int .i64 5, .int .i64 9] 54)) 32 #[.int .i64 3, .slice (some ⟨w.heap.size, 0, none⟩) 1 1]
    rw [size_alloc] at this
    exact (this.alloc _).alloc _
  · refine SlC.keep ?_ ((Below.refl _ _).alloc (Nat.le_refl _) _)
    have := slc_of_box (l := [E2, E3]) (Box.new ((w.alloc (.cells #[.string ⟨#[107]⟩, .string ⟨#[48, 49, 50, 51, 52, 53, 54, 55, 56, 57, 97, 98, 99, 100, 101, 102, 48, 49, 50, 51, 52, 53, 54, 55, 56, 57, 97, 98, 99, 100, 101, 102]⟩, .int .i64 5, .int .i64 9] 54)).alloc (.cells #[.int .i64 3, .slice (some ⟨w.heap.size, 0, none⟩) 1 1] 32)) 54 #[.string ⟨#[107]⟩, .string ⟨#[48, 49, 50, 51, 52, 53, 54, 55, 56, 57, 97, 98, 99, 100, 101, 102, 48, 49, 50, 51, 52, 53, 54, 55, 56, 57, 97, 98, 99, 100, 101, 102]⟩, .int .i64 6, .int .i64 9, .string ⟨#[108]⟩, .string ⟨#[48, 49, 50, 51, 52, 53, 54, 55, 56, 57, 97, 98, 99, 100, 101, 102, 48, 49, 50, 51, 52, 53, 54, 55, 56, 57, 97, 98, 99, 100, 101, 102]⟩, .int .i64 7, .int .i64 1]) rfl
    rw [size_alloc, size_alloc] at this
    exact this
  · have := Box.new (((w.alloc (.cells #[.string ⟨#[107]⟩, .string ⟨#[48, 49, 50, 51, 52, 53, 54, 55, 56, 57, 97, 98, 99, 100, 101, 102, 48, 49, 50, 51, 52, 53, 54, 55, 56, 57, 97, 98, 99, 100, 101, 102]⟩, .int .i64 5, .int .i64 9] 54)).alloc (.cells #[.int .i64 3, .slice (some ⟨w.heap.size, 0, none⟩) 1 1] 32)).alloc (.cells #[.string ⟨#[107]⟩, .string ⟨#[48, 49, 50, 51, 52, 53, 54, 55, 56, 57, 97, 98, 99, 100, 101, 102, 48, 49, 50, 51, 52, 53, 54, 55, 56, 57, 97, 98, 99, 100, 101, 102]⟩, .int .i64 6, .int .i64 9, .string ⟨#[108]⟩, .string ⟨#[48, 49, 50, 51, 52, 53, 54, 55, 56, 57, 97, 98, 99, 100, 101, 102, 48, 49, 50, 51, 52, 53, 54, 55, 56, 57, 97, 98, 99, 100, 101, 102]⟩, .int .i64 7, .int .i64 1] 54)) 32 #[.int .i64 2, .slice (some ⟨w.heap.size + 1 + 1, 0, none⟩) 2 2]
    rw [size_alloc, size_alloc, size_alloc] at this
    exact this
  · refine ((((Below.refl _ _).alloc (Nat.le_refl _) _).alloc ?_ _).alloc ?_ _).alloc ?_ _ <;> simp only [size_alloc] <;> omega
theorem lv_chk : chkC 3 [E1] = 0 := by decide +kernel
theorem lv_chk0 : chkC 0 [] = 0 := by decide +kernel
theorem lv_enc : (encC 3 [E1]).1.size = 79 ∧ (encC 3 [E1]).2 = 0 ∧ decC (encC 3 [E1]).1 = ((3, [E1]), 0) := by
  obtain ⟨h1, h2, h3⟩ := enc_back lv_chk
  exact ⟨by rw [h3]; rfl, h2, h1⟩
theorem lv_enc0 : (encC 0 []).1.size = 41 ∧ (encC 0 []).2 = 0 := by
  obtain ⟨h1, h2, h3⟩ := enc_back lv_chk0
  exact ⟨by rw [h3]; rfl, h2⟩
theorem lv_cut : decC ⟨#[115, 104, 111, 114, 116]⟩ = ((0, []), 2) := if_pos (by decide)
theorem lv_new2 : newD [(3, [E1]), (2, [E2, E3])] = [(9, (E1, 3)), (1, (E3, 2))] := by decide +kernel
theorem lv_merge : mergeL [(3, [E1]), (2, [E2, E3])] = [E3, E1] := by
  unfold mergeL
  rw [lv_new2]
  have : List.mergeSort (List.map (fun x : DtD => x.1) [(9, (E1, 3)), (1, (E3, 2))]) (fun x y => decide (x ≤ y)) = [1, 9] := by
    simp [List.mergeSort]
  rw [this]
  rfl
theorem lv_neg : chkC (-1) [] = 1 := by decide +kernel
end Go.Proofs.YtljjcchdhnficaaDoor
