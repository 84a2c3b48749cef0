/-
  Texts put together: ClogTurn, ClogTailWalk.
-/
import Derived.Test.YtljjcchdhnficaaDoorMg19
import Derived.Laws.Bits64
import Derived.Test.YtljjcchdhnficaaDoorClogLive
import Derived.Test.YtljjcchdhnficaaDoorClogH
import Derived.Test.YtljjcchdhnficaaDoorMg0
import Derived.Test.YtljjcchdhnficaaDoorMg32
import Derived.Lib.ConvBytes
import Derived.Laws.IdiomStrings
namespace Go.Proofs.YtljjcchdhnficaaDoor
open Go.RowKit

theorem bits_xor_u8 (a b : Nat) (ha : a < 256) (hb : b < 256) : bits .xor .u8 (a : Int) (b : Int) = ((a ^^^ b : Nat) : Int) := by
  have hx : a ^^^ b < 2 ^ 8 := Nat.xor_lt_two_pow (by omega) (by omega)
  have h1 : (BitVec.ofInt 8 (a : Int)).toNat = a := by
    rw [BitVec.ofInt_natCast, BitVec.toNat_ofNat]; exact Nat.mod_eq_of_lt (by omega)
  have h2 : (BitVec.ofInt 8 (b : Int)).toNat = b := by
    rw [BitVec.ofInt_natCast, BitVec.toNat_ofNat]; exact Nat.mod_eq_of_lt (by omega)
  show IntKind.u8.wrap ((BitVec.ofInt 8 (a : Int) ^^^ BitVec.ofInt 8 (b : Int)).toNat : Int) = _
  rw [BitVec.toNat_xor, h1, h2, show ∀ n : Int, IntKind.u8.wrap n = n % 256 by intro n; simp [IntKind.wrap, IntKind.bits, IntKind.signed]]
  omega
theorem xor_ne {a b : Nat} (hb : b ≠ 0) : a ^^^ b ≠ a := fun h => hb (by
  have : a ^^^ (a ^^^ b) = a ^^^ a := by rw [h]
  rw [← Nat.xor_assoc, Nat.xor_self, Nat.zero_xor] at this
  exact this)
theorem decC_sum {s : ByteArray} {q : Int} {l : List CgE} (h : decC s = ((q, l), 0)) : ¬ s.size < 41 ∧ sha (bdyC s) = digC s := by
  unfold decC at h
  split at h
  · cases h
  · rename_i h0
    refine ⟨h0, ?_⟩
    split at h
    · cases h
    · rename_i h1
      exact Decidable.not_not.1 h1
theorem turned {s : ByteArray} {q : Int} {l : List CgE} {k : Nat} {d : UInt8} (h : decC s = ((q, l), 0)) (h1 : k < s.size) (h2 : s.size ≤ k + 32) (hd : d ≠ (bl s).getD k 0) :
    decC ⟨((bl s).set k d).toArray⟩ = ((0, []), 4) := by
  obtain ⟨h41, hs⟩ := decC_sum h
  obtain ⟨t, ht⟩ : ∃ t : ByteArray, t = ⟨((bl s).set k d).toArray⟩ := ⟨_, rfl⟩
  rw [← ht]
  have hbt : bl t = (bl s).set k d := by rw [ht]; exact bl_mk _
  have hz : t.size = s.size := by rw [← bl_size, hbt, List.length_set, bl_size]
  have hb : bdyC t = bdyC s := by
    have e : ∀ x : ByteArray, bdyC x = valB x 0 (x.size - 32) := fun x => by unfold bdyC valB; rw [Nat.zero_add, if_pos (Nat.sub_le _ _)]
    refine bl_ext ?_
    rw [e, e, valB_bl _ _ _ (by omega), valB_bl _ _ _ (by omega), hbt, hz]
    unfold vL
    rw [List.drop_zero, List.drop_zero, List.take_set_of_le (by omega)]
  have hg : digC t ≠ digC s := by
    intro hgd
    have e : ∀ x : ByteArray, 41 ≤ x.size → digC x = valB x (x.size - 32) 32 := fun x hx => by unfold digC valB; rw [show x.size - 32 + 32 = x.size by omega, if_pos (Nat.le_refl _)]
    have h3 := congrArg bl hgd
    rw [e t (by omega), e s (by omega), valB_bl _ _ _ (by omega), valB_bl _ _ _ (by omega), hbt, hz] at h3
    unfold vL at h3
    have h4 := congrArg (fun x : List UInt8 => x[k - (s.size - 32)]?) h3
    simp only [List.getElem?_take, List.getElem?_drop] at h4
    rw [if_pos (by omega), if_pos (by omega), show s.size - 32 + (k - (s.size - 32)) = k by omega, List.getElem?_set_self (by rw [bl_size]; exact h1)] at h4
    apply hd
    rw [List.getD_eq_getElem?_getD, ← h4]
    rfl
  unfold decC
  rw [if_neg (by omega), if_pos (by rw [hb, hs]; exact fun e => hg e.symm)]
end Go.Proofs.YtljjcchdhnficaaDoor

namespace Go.Proofs.YtljjcchdhnficaaDoor.clogTail
open Go.RowKit
open Go.ChangeShapes Go.WideShapes Go.ChangeAt

theorem bw_free (w : World) (e : TypeId) (s : ByteArray) (j : Nat) (hj : j < s.size) : (Lib.bytesWorld w e s).frozen? ⟨w.heap.size, j, none⟩ = false := by
  have h := Lib.bytesWorld_at_new w e s
  have hs : s.size ≤ (Lib.bytesCells w e s).size := by
    have : (Array.map (fun b : UInt8 => Value.int .u8 b.toNat) s.data).size = s.size := by rw [Array.size_map]; rfl
    unfold Lib.bytesCells
    rw [Array.size_append, this]
    omega
  simp [World.frozen?, h]
  omega
theorem bw_below (w : World) (e : TypeId) (s : ByteArray) : Below w.heap.size w (Lib.bytesWorld w e s) :=
  ⟨rfl, rfl, rfl, by rw [Lib.bytesWorld_size]; omega, fun i hi => Lib.bytesWorld_at_old w e s i hi⟩
set_option maxRecDepth 100000 in
set_option maxHeartbeats 2000000 in
theorem walk (w : World) (hK : Kt w) (q0 : Int) (x0 : Option Addr) (c0 : Nat) (l0 : List CgE) (s0 : SlC w x0 l0) (m0 : l0.length ≤ maxLen) (a1 : Int) (_w1 : (Lit.int .i64 a1).wf = true) (a2 : Int) (w2 : (Lit.int .u8 a2).wf = true) :
    Calls Tryd.prog 6 #[.agg #[.int .i64 q0, .slice x0 l0.length c0], .int .i64 a1, .int .u8 a2] w fun e w' => e = .returned (.bool true) ∧ Below w.heap.size w w' := by
  have HK := Lib.hid hK
  have HP := Lib.hid hK.pos
  have BX := Lib.hid (Box.new w 24 #[.int .i64 q0, .slice x0 l0.length c0])
  have L0 := Lib.hid ((Below.refl w.heap.size w).alloc (Nat.le_refl _) (.cells #[.int .i64 q0, .slice x0 l0.length c0] 24))
  have S0 := Lib.hid (s0.keep ((Below.refl w.heap.size w).alloc (Nat.le_refl _) (.cells #[.int .i64 q0, .slice x0 l0.length c0] 24)))
  clear hK s0
  go_enter Tryd.func6, Tryd.ntmps6
  go_wp2_with fail
  generalize World.alloc w _ = v0 at *
  obtain ⟨g, hg⟩ : ∃ g, g = w.heap.size := ⟨_, rfl⟩
  rw [← hg] at BX ⊢
  clear hg
  have k0 := BX.out.cell 0 _ rfl
  have k1 := BX.out.cell 1 _ rfl
  go_wp2_with fail
  refine (csmall_any q0 x0 c0 l0 v0 S0.out m0).mono ?_
  rintro e v1 ⟨rfl, hb⟩
  have B1 := Lib.hid (BX.out.keep hb BX.out.lt)
  have L1 := Lib.hid (L0.out.trans (hb.mono L0.out.size))
  have S1 := Lib.hid (S0.out.keep hb)
  clear hb BX L0 S0 k0 k1
  by_cases hs : SmC l0
  rotate_left
  · rw [decide_eq_false hs]
    clear hs
    go_wp2_with fail
    refine (clive_any _ (HK.out.below L1.out HP.out)).mono ?_
    rintro e vz ⟨rfl, hb⟩
    have LZ := Lib.hid (L1.out.trans (hb.mono L1.out.size))
    clear hb
    go_wp2
    go_ret
    exact ⟨rfl, LZ.out⟩
  rw [decide_eq_true hs]
  by_cases h1 : a1 < 1
  · have d1 : decide (a1 < 1) = true := decide_eq_true h1
    clear h1 hs
    go_wp2_with fail
    refine (clive_any _ (HK.out.below L1.out HP.out)).mono ?_
    rintro e vz ⟨rfl, hb⟩
    have LZ := Lib.hid (L1.out.trans (hb.mono L1.out.size))
    clear hb
    go_wp2
    go_ret
    exact ⟨rfl, LZ.out⟩
  by_cases h2 : 32 < a1
  · have d1 : decide (a1 < 1) = false := decide_eq_false h1
    have d2 : decide (32 < a1) = true := decide_eq_true h2
    clear h1 h2 hs
    go_wp2_with fail
    refine (clive_any _ (HK.out.below L1.out HP.out)).mono ?_
    rintro e vz ⟨rfl, hb⟩
    have LZ := Lib.hid (L1.out.trans (hb.mono L1.out.size))
    clear hb
    go_wp2
    go_ret
    exact ⟨rfl, LZ.out⟩
  by_cases h3 : a2 = 0
  · subst h3
    have d1 : decide (a1 < 1) = false := decide_eq_false h1
    have d2 : decide (32 < a1) = false := decide_eq_false h2
    clear h1 h2 hs
    go_wp2_with fail
    refine (clive_any _ (HK.out.below L1.out HP.out)).mono ?_
    rintro e vz ⟨rfl, hb⟩
    have LZ := Lib.hid (L1.out.trans (hb.mono L1.out.size))
    clear hb
    go_wp2
    go_ret
    exact ⟨rfl, LZ.out⟩
  have d1 : decide (a1 < 1) = false := decide_eq_false h1
  have d2 : decide (32 < a1) = false := decide_eq_false h2
  have d3 : (a2 == 0) = false := beq_eq_false_iff_ne.2 h3
  have H3 := Lib.hid h3
  have H12 := Lib.hid (And.intro h1 h2)
  clear h1 h2 h3
  have hl40 : l0.length ≤ 40 := hs.2
  have k0 := B1.out.cell 0 _ rfl
  have k1 := B1.out.cell 1 _ rfl
  go_wp2_with fail
  refine (cown_any q0 x0 c0 l0 v1 S1.out (by omega)).mono ?_
  rintro e v2 ⟨v, rfl, hp, hb⟩
  obtain ⟨oa, oc, rfl, ho⟩ := hp.view
  have B2 := Lib.hid (B1.out.keep hb B1.out.lt)
  have L2 := Lib.hid (L1.out.trans (hb.mono L1.out.size))
  have S2 := Lib.hid (S1.out.keep hb)
  have O2 := Lib.hid ho
  clear hb hp ho B1 L1 S1 k0 k1
  go_wp2_with fail
  refine (cencode_any q0 oa oc l0 v2 O2.out (HK.out.below L2.out HP.out)).mono ?_
  rintro e v3 ⟨rfl, hb⟩
  have B3 := Lib.hid (B2.out.keep hb B2.out.lt)
  have L3 := Lib.hid (L2.out.trans (hb.mono L2.out.size))
  have S3 := Lib.hid (S2.out.keep hb)
  clear hb B2 L2 S2 O2
  clear d1 d2 d3
  by_cases hc : chkC q0 l0 = 0
  rotate_left
  · have e1 : encC q0 l0 = (⟨#[]⟩, chkC q0 l0) := if_neg hc
    have e2 : chkC q0 l0 = 1 := (chkC_or q0 l0).resolve_left hc
    rw [e1, e2]
    clear hc e1 e2 hs
    go_wp2_with fail
    refine (clive_any _ (HK.out.below L3.out HP.out)).mono ?_
    rintro e vz ⟨rfl, hb⟩
    have LZ := Lib.hid (L3.out.trans (hb.mono L3.out.size))
    clear hb
    go_wp2
    go_ret
    exact ⟨rfl, LZ.out⟩
  obtain ⟨y1, y2, y3⟩ := enc_back hc
  rw [y2]
  generalize (encC q0 l0).1 = s at *
  have Y1 := Lib.hid y1
  have hlow : 41 ≤ s.size := by omega
  have HLOW := Lib.hid hlow
  have HHI : Hid (s.size ≤ 1000000) := by
    obtain ⟨_, _, z3, z4⟩ := chkC_zero hc
    have := (clogBack.flat_ge l0 z4).2
    show s.size ≤ 1000000
    omega
  clear y1 y2 y3 hc
  have dl : decide ((s.size : Int) < 41) = false := decide_eq_false (by omega)
  have kc := Lib.run_convert_string_bytes (P := Tryd.prog) v3 9 50 5 s Tryd.underlying9 Tryd.underlying50 Tryd.underlying5
  obtain ⟨k, hk⟩ : ∃ k : Nat, (s.size : Int) - a1 = (k : Int) := ⟨((s.size : Int) - a1).toNat, by have := H12.out; omega⟩
  have kw : IntKind.i64.wrap ((s.size : Int) - a1) = (k : Int) := by
    rw [hk]
    exact i64_small _ (by omega) (by have := HHI.out; have := H12.out; omega)
  have kl : (k : Int) < (s.size : Int) := by have := H12.out; omega
  have KN : Hid (k < s.size ∧ s.size ≤ k + 32) := by have := H12.out; exact ⟨by omega, by omega⟩
  have KK := Lib.hid hk
  clear hk
  have c1 := Lib.bytesWorld_cell v3 5 s k KN.out.1
  have f1 := bw_free v3 5 s k KN.out.1
  obtain ⟨c, hcc⟩ : ∃ c : Nat, c = (s.data.toList.getD k 0).toNat := ⟨_, rfl⟩
  have HCC := Lib.hid hcc
  rw [← hcc] at c1
  clear hcc
  have hA2 : ∃ b : Nat, a2 = (b : Int) ∧ b < 256 ∧ b ≠ 0 := by
    have h := w2
    have := H3.out
    simp [Lit.wf] at h
    have e1 : IntKind.u8.min = 0 := rfl
    have e2 : IntKind.u8.max = 255 := rfl
    exact ⟨a2.toNat, by omega, by omega, by omega⟩
  obtain ⟨b2, rfl, hb2, hb0⟩ := hA2
  have HB2 := Lib.hid (And.intro hb2 hb0)
  have hc256 : c < 256 := by rw [HCC.out]; exact UInt8.toNat_lt _
  have HC := Lib.hid hc256
  have kx : bits .xor .u8 (c : Int) (b2 : Int) = ((c ^^^ b2 : Nat) : Int) := bits_xor_u8 c b2 hc256 hb2
  obtain ⟨y, hy⟩ : ∃ y : Nat, y = c ^^^ b2 := ⟨_, rfl⟩
  have HY := Lib.hid hy
  rw [← hy] at kx
  clear hy hb2 hb0 hc256
  have BW := Lib.hid (bw_below v3 5 s)
  have cw := Lib.hid (Lib.bytesWorld_cell v3 5 s)
  have Y256 : Hid (y < 256) := by rw [HY.out]; exact Nat.xor_lt_two_pow (n := 8) HC.out HB2.out.1
  have ks := run_convert_bytes_back (P := Tryd.prog) ((Lib.bytesWorld v3 5 s).setCell ⟨v3.heap.size, k, none⟩ (.int .u8 (y : Int))) 50 9 5 ⟨v3.heap.size, 0, none⟩ (grownCap v3 s.size 0 5) ((bl s).set k (UInt8.ofNat y)) Tryd.underlying50 Tryd.underlying5 Tryd.underlying9 (by
    intro j hj
    have hj2 : j < s.size := by rw [List.length_set, bl_size] at hj; exact hj
    rw [add_plain, Nat.zero_add]
    by_cases e : k = j
    · subst e
      rw [World.cell?_setCell_same _ _ _ (cw.out k hj2), List.getElem_set_self, UInt8.toNat_ofNat', Nat.mod_eq_of_lt Y256.out]
    · rw [World.cell?_setCell_other _ _ _ _ (by intro h; injection h with _ h _; exact e h), cw.out j hj2, List.getElem_set_ne e]
      rw [List.getD_eq_getElem?_getD, List.getElem?_eq_getElem (by rw [← bl_size] at hj2; exact hj2)]
      rfl)
  rw [List.length_set, bl_size] at ks
  have hsz : s.size ≤ 1000000 := HHI.out
  have hst := turned Y1.out KN.out.1 KN.out.2 (d := UInt8.ofNat y) (by
    intro h
    have h2 := congrArg UInt8.toNat h
    rw [UInt8.toNat_ofNat', Nat.mod_eq_of_lt Y256.out] at h2
    exact xor_ne HB2.out.2 (HY.out.symm.trans (h2.trans HCC.out.symm)))
  have htz : (⟨((bl s).set k (UInt8.ofNat y)).toArray⟩ : ByteArray).size = s.size := by
    show ((bl s).set k (UInt8.ofNat y)).toArray.size = _
    rw [List.size_toArray, List.length_set, bl_size]
  have HST := Lib.hid hst
  have HTZ := Lib.hid htz
  clear hst htz
  generalize (⟨((bl s).set k (UInt8.ofNat y)).toArray⟩ : ByteArray) = t at *
  have L4 : Hid (Below w.heap.size w ((Lib.bytesWorld v3 5 s).setCell ⟨v3.heap.size, k, none⟩ (.int .u8 (y : Int)))) := (L3.out.trans (BW.out.mono L3.out.size)).setCell (p := ⟨v3.heap.size, k, none⟩) L3.out.size _
  go_wp2_with fail
  clear kc ks c1 f1 kw kl kx cw BW
  generalize World.setCell _ _ _ = v5 at *
  refine (cdecode_long t v5 (by have := HTZ.out; omega) (by have := HTZ.out; omega) (HK.out.below L4.out HP.out)).mono ?_
  rintro e v6 ⟨v, rfl, hp, hb⟩
  rw [HST.out] at hp ⊢
  obtain ⟨na, nc, rfl, _⟩ := hp.view
  have hx := (Below.refl v6.heap.size v6).alloc (Nat.le_refl _) (.cells #[.int .i64 0, .slice na 0 nc] 32)
  have B6 := Box.new v6 32 #[.int .i64 0, .slice na 0 nc]
  have hbx := hb.trans (hx.mono hb.size)
  have L7 := Lib.hid (L4.out.trans (hbx.mono L4.out.size))
  have k1 := B6.cell 1 _ rfl
  clear hb hp hx hbx B6 L4
  go_wp2_with fail
  refine (clive_any _ (HK.out.below L7.out HP.out)).mono ?_
  rintro e vz ⟨rfl, hb⟩
  have LZ := Lib.hid (L7.out.trans (hb.mono L7.out.size))
  clear hb
  go_wp2
  go_ret
  exact ⟨rfl, LZ.out⟩
end Go.Proofs.YtljjcchdhnficaaDoor.clogTail
