/-
  Texts put together: NodeI, Builder.
-/
import Derived.Test.YtbeldjijnjgbfaaMg14
import Derived.Test.YtbeldjijnjgbfaaMg1
import Derived.Shelf.Strings.Builder1
namespace Go.Proofs.Ytbeldjijnjgbfaa
open Go.RowKit Go.ChangeShapes Go.WideShapes Go.ChangeAt

/-- The value v is a node whose slices are the call's own. -/
def NodeOwn (w : World) (B : Nat) (v : Value) (d : NodeD) : Prop := ∃ kv vv, v = .agg #[.bool d.leaf, kv, vv] ∧ Ks w B kv d.keys ∧ Ks w B vv d.vals
theorem NodeOwn.keep {w w' : World} {B : Nat} {v : Value} {d : NodeD} (h : NodeOwn w B v d) (hb : Below w.heap.size w w') : NodeOwn w' B v d := by
  obtain ⟨kv, vv, e, h1, h2⟩ := h
  exact ⟨kv, vv, e, h1.keep hb, h2.keep hb⟩
theorem NodeOwn.low {w : World} {B b : Nat} {v : Value} {d : NodeD} (h : NodeOwn w B v d) (hb : b ≤ B) : NodeOwn w b v d := by
  obtain ⟨kv, vv, e, h1, h2⟩ := h
  exact ⟨kv, vv, e, h1.low hb, h2.low hb⟩
theorem ks_cap {w : World} {base : Nat} {v : Value} {l : List ByteArray} (h : Ks w base v l) : ∃ a c, v = .slice a l.length c ∧ Sl w Value.string a l ∧ l.length ≤ c ∧ c ≤ maxLen := by
  obtain ⟨a, c, e, s⟩ := h.view
  refine ⟨a, c, e, s, ?_⟩
  rcases h.form with ⟨h1, h2⟩ | ⟨g, cap, h1, _, _, h2, h3⟩
  · rw [h1] at e; injection e with _ _ e3; rw [h2, ← e3]; exact ⟨Nat.le_refl _, Nat.zero_le _⟩
  · rw [h1] at e; injection e with _ _ e3; rw [← e3]; exact ⟨h2, h3⟩
theorem NodeOwn.view {w : World} {B : Nat} {v : Value} {d : NodeD} (h : NodeOwn w B v d) (hk : d.keys.length ≤ 100000) (hv : d.vals.length ≤ 100000) :
    ∃ ka kc va vc, v = nodeV ka kc va vc d ∧ NodeIn w ka va d ∧ d.keys.length ≤ kc ∧ d.vals.length ≤ vc := by
  obtain ⟨kv, vv, e, h1, h2⟩ := h
  obtain ⟨ka, kc, rfl, s1, c1, _⟩ := ks_cap h1
  obtain ⟨va, vc, rfl, s2, c2, _⟩ := ks_cap h2
  exact ⟨ka, kc, va, vc, e, ⟨s1, s2, hk, hv⟩, c1, c2⟩
theorem NodeOwn.nil (w : World) (B : Nat) : NodeOwn w B (.agg #[.bool false, .slice none 0 0, .slice none 0 0]) nilD := ⟨_, _, rfl, Ks.nil _ _, Ks.nil _ _⟩
theorem NodeOwn.chg {w w' : World} {B : Nat} {v : Value} {d : NodeD} {S : List Nat} (h : NodeOwn w B v d) (hc : Chg S w w') (hn : ∀ k ∈ S, k < B) : NodeOwn w' B v d := by
  obtain ⟨kv, vv, e, h1, h2⟩ := h
  exact ⟨kv, vv, e, h1.chg hc (fun k hk hm => by have := h1.own_block k hk; have := hn k hm; omega), h2.chg hc (fun k hk hm => by have := h2.own_block k hk; have := hn k hm; omega)⟩

set_option maxRecDepth 100000 in
set_option maxHeartbeats 2000000 in
theorem middle_any (ka : Option Addr) (kc : Nat) (va : Option Addr) (vc : Nat) (d : NodeD) (w : World) (h : NodeIn w ka va d) (hm : mayD d = true) (h2 : 2 ≤ d.keys.length) :
    Calls Try.prog 72 #[nodeV ka kc va vc d] w fun e w' => e = .returned (.int .i64 (cutD d)) ∧ Below w.heap.size w w' := by
  have hM := may_bounds hm
  have HM := Lib.hid hM
  have HZ : Hid (∀ s ∈ d.keys ++ d.vals, s.size ≤ maxLen) := by
    intro s hs
    unfold maxLen
    rcases List.mem_append.1 hs with h | h
    · have := hM.ks s h; omega
    · have := hM.vs s h; omega
  have H := Lib.hid h
  have HS : Hid (sizeD d = 2 + szL d.keys d.vals) := by show _ = _; unfold sizeD; rw [hm]; rfl
  have hle := hM.le
  have hsz := hM.sz
  have HB0 : Hid (∀ o, Below w.heap.size w (w.alloc o)) := fun o => (Below.refl _ _).alloc (Nat.le_refl _) o
  clear h hM hm
  have HV : Hid (Value.agg #[.bool d.leaf, .slice ka d.keys.length kc, .slice va d.vals.length vc] = nodeV ka kc va vc d) := rfl
  obtain ⟨C, hC⟩ : ∃ C, C = cutD d := ⟨_, rfl⟩
  rw [← hC]
  have HC := Lib.hid hC
  clear hC
  unfold nodeV
  go_enter Try.func72, Try.ntmps72
  go_wp2_with fail
  rw [HV.out]
  refine (size_any ka kc va vc d _ (H.out.keep (HB0.out _)) HZ.out).mono ?_
  rintro e w1 ⟨rfl, hb⟩
  rw [HS.out]
  have HX : Hid (Box w1 w.heap.size 51 #[.bool d.leaf, .slice ka d.keys.length kc, .slice va d.vals.length vc]) := (Box.new _ _ _).keep hb (by rw [size_alloc]; omega)
  have HB1 := Lib.hid ((HB0.out _).trans (hb.mono (by rw [size_alloc]; omega)))
  have c1 := HX.out.cell 1 _ rfl
  clear hb
  obtain ⟨T, hT⟩ : ∃ T, T = szL d.keys d.vals := ⟨_, rfl⟩
  rw [← hT] at hsz HS ⊢
  have HT0 := Lib.hid hT
  clear hT
  obtain ⟨m, hm⟩ : ∃ m, d.keys.length = m + 1 := ⟨d.keys.length - 1, by omega⟩
  have HMM := Lib.hid hm
  have hm1 : 1 ≤ m := by omega
  have hm2 : m ≤ 254 := by omega
  have w0 : wrap64 ((d.keys.length : Int) - 1) = (m : Int) := by rw [IntWalk.wrap64_in _ (by omega)]; omega
  clear hm h2 hle
  go_wp2_with fail
  rw [w0]
  clear w0
  go_loopw [4, 5, 6, 7, 8, 15] (fun f b l _ _ i wr => ∃ k : Nat, k ≤ m ∧ f = .int .i64 ((2 + szL (d.keys.take k) (d.vals.take k) : Nat) : Int) ∧ b = .int .i64 ((midS d k).1 : Nat) ∧ l = .int .i64 ((midS d k).2 : Nat) ∧ i = .int .i64 k ∧ Hid (Below w.heap.size w wr) ∧ Hid (Box wr w.heap.size 51 #[.bool d.leaf, .slice ka d.keys.length kc, .slice va d.vals.length vc])) (fun _ _ _ _ _ i _ => m - (intOf i).toNat)
  case atStart => exact ⟨0, Nat.zero_le _, rfl, rfl, rfl, rfl, HB1, HX⟩
  case round =>
    clear HX HB1 c1
    obtain ⟨k, hk, rfl, rfl, rfl, rfl, HL, HX⟩ := hrel
    by_cases hlt : k < m
    · have hk1 : k < d.keys.length := by have := HMM.out; omega
      have hk2 : k < d.vals.length := by have := HM.out.eq; omega
      have z1 := HM.out.ks d.keys[k] (by simp)
      have z2 := HM.out.vs d.vals[k] (by simp)
      have HT := Lib.hid (sz_take d.keys d.vals k hk1 hk2)
      have hcut := sz_cut d.keys d.vals (k + 1)
      have hcut0 := sz_cut d.keys d.vals k
      rw [← HT0.out] at hcut hcut0
      rw [HT.out] at hcut
      have hG : grD d (k + 1) = max (2 + szL (d.keys.take (k + 1)) (d.vals.take (k + 1))) (2 + szL (d.keys.drop (k + 1)) (d.vals.drop (k + 1))) := rfl
      rw [HT.out] at hG
      have hS : midS d (k + 1) = if (midS d k).1 = 0 ∨ grD d (k + 1) < (midS d k).2 then (k + 1, grD d (k + 1)) else midS d k := rfl
      have c0 := HX.out.cell 0 _ rfl
      have c1 := HX.out.cell 1 _ rfl
      have c2 := HX.out.cell 2 _ rfl
      generalize hn2 : szL (d.keys.take (k + 1)) (d.vals.take (k + 1)) = n2 at *
      have HN2 := Lib.hid hn2
      clear hn2
      generalize szL (d.keys.take k) (d.vals.take k) = n at *
      generalize szL (d.keys.drop (k + 1)) (d.vals.drop (k + 1)) = r at *
      have hb1 : (midS d k).1 ≤ 300 := by
        rcases Nat.eq_zero_or_pos k with rfl | h0
        · exact Nat.zero_le _
        · have := (mid_spec d k h0).2.1; omega
      obtain ⟨G, hG1⟩ : ∃ G, G = grD d (k + 1) := ⟨_, rfl⟩
      rw [← hG1] at hG hS
      obtain ⟨b1, hb1e⟩ : ∃ b1, b1 = (midS d k).1 := ⟨_, rfl⟩
      obtain ⟨l1, hl1e⟩ : ∃ l1, l1 = (midS d k).2 := ⟨_, rfl⟩
      rw [← hb1e] at hS hb1 ⊢
      rw [← hl1e] at hS ⊢
      have HSP : Hid ((b1, l1) = midS d k) := by show _ = _; rw [hb1e, hl1e]
      have HSS := Lib.hid hS
      clear hb1e hl1e hG1 hS
      go_wp2_with fail
      rw [HV.out]
      refine (sizeof_any ka kc va vc d k _ (H.out.keep HL.out) hk1 hk2 (by omega) (by omega)).mono ?_
      rintro e w2 ⟨rfl, hb⟩
      have HL2 := Lib.hid (HL.out.trans (hb.mono HL.out.size))
      have HX2 := Lib.hid (HX.out.keep hb HX.out.lt)
      generalize d.keys[k] = x at *
      generalize d.vals[k] = y at *
      clear hb c0 c1 c2
      have hT := HT.out
      have HT1 : Hid (szL (d.keys.take (k + 1)) (d.vals.take (k + 1)) = n + (3 + x.size + y.size)) := HN2.out.trans hT

      have HGG := Lib.hid hG
      clear hG hT HT HN2
      rcases Nat.lt_trichotomy (n + (3 + x.size + y.size)) r with hab | hab | hab
      · have HG : Hid (G = 2 + r) := by show _ = _; have := HGG.out; omega
        rcases Nat.eq_zero_or_pos b1 with hb0 | hb0
        · have HM1 : Hid (midS d (k + 1) = (k + 1, G)) := by show _ = _; rw [HSS.out, if_pos (.inl hb0)]
          clear HSS HSP hb1
          subst hb0
          rw [HG.out] at HM1
          clear HGG
          go_wp2
          go_roundw
          case rel => exact ⟨k + 1, by omega, by rw [HT1.out]; go_num, by rw [HM1.out]; go_num, by rw [HM1.out]; go_num, by go_num, HL2, HX2⟩
          case measure => simp [intOf]; omega
        · have hbne : ¬ b1 = 0 := by omega
          by_cases hgl : G < l1
          · have HM1 : Hid (midS d (k + 1) = (k + 1, G)) := by show _ = _; rw [HSS.out, if_pos (.inr hgl)]
            rw [HG.out] at HM1 hgl
            clear HSS HSP HGG
            go_wp2
            go_roundw
            case rel => exact ⟨k + 1, by omega, by rw [HT1.out]; go_num, by rw [HM1.out]; go_num, by rw [HM1.out]; go_num, by go_num, HL2, HX2⟩
            case measure => simp [intOf]; omega
          · have HM1 : Hid (midS d (k + 1) = (b1, l1)) := by show _ = _; rw [HSS.out, if_neg (fun h => by rcases h with h | h; exact hbne h; exact hgl h), HSP.out]
            rw [HG.out] at hgl
            have hgl2 := Nat.not_lt.1 hgl
            have hgl3 : (2 + (T : Int) - (2 + (n : Int) + (3 + (x.size : Int) + (y.size : Int))) + 2 < (l1 : Int)) = False := eq_false (by omega)
            have hbz : ((b1 : Int) == 0) = false := by rw [beq_eq_false_iff_ne]; omega
            clear HSS HSP HGG hgl
            go_wp2
            go_roundw
            case rel => exact ⟨k + 1, by omega, by rw [HT1.out]; go_num, by rw [HM1.out], by rw [HM1.out], by go_num, HL2, HX2⟩
            case measure => simp [intOf]; omega
      · subst hab
        have HG : Hid (G = 2 + (n + (3 + x.size + y.size))) := by show _ = _; have := HGG.out; omega
        rcases Nat.eq_zero_or_pos b1 with hb0 | hb0
        · have HM1 : Hid (midS d (k + 1) = (k + 1, G)) := by show _ = _; rw [HSS.out, if_pos (.inl hb0)]
          clear HSS HSP hb1
          subst hb0
          rw [HG.out] at HM1
          clear HGG
          go_wp2
          go_roundw
          case rel => exact ⟨k + 1, by omega, by rw [HT1.out]; go_num, by rw [HM1.out]; go_num, by rw [HM1.out]; go_num, by go_num, HL2, HX2⟩
          case measure => simp [intOf]; omega
        · have hbne : ¬ b1 = 0 := by omega
          by_cases hgl : G < l1
          · have HM1 : Hid (midS d (k + 1) = (k + 1, G)) := by show _ = _; rw [HSS.out, if_pos (.inr hgl)]
            rw [HG.out] at HM1 hgl
            clear HSS HSP HGG
            go_wp2
            go_roundw
            case rel => exact ⟨k + 1, by omega, by rw [HT1.out]; go_num, by rw [HM1.out]; go_num, by rw [HM1.out]; go_num, by go_num, HL2, HX2⟩
            case measure => simp [intOf]; omega
          · have HM1 : Hid (midS d (k + 1) = (b1, l1)) := by show _ = _; rw [HSS.out, if_neg (fun h => by rcases h with h | h; exact hbne h; exact hgl h), HSP.out]
            rw [HG.out] at hgl
            have hgl2 := Nat.not_lt.1 hgl
            have hgl3 : (2 + (T : Int) - (2 + (n : Int) + (3 + (x.size : Int) + (y.size : Int))) + 2 < (l1 : Int)) = False := eq_false (by omega)
            have hbz : ((b1 : Int) == 0) = false := by rw [beq_eq_false_iff_ne]; omega
            clear HSS HSP HGG hgl
            go_wp2
            go_roundw
            case rel => exact ⟨k + 1, by omega, by rw [HT1.out]; go_num, by rw [HM1.out], by rw [HM1.out], by go_num, HL2, HX2⟩
            case measure => simp [intOf]; omega
      · have HG : Hid (G = 2 + (n + (3 + x.size + y.size))) := by show _ = _; have := HGG.out; omega
        rcases Nat.eq_zero_or_pos b1 with hb0 | hb0
        · have HM1 : Hid (midS d (k + 1) = (k + 1, G)) := by show _ = _; rw [HSS.out, if_pos (.inl hb0)]
          clear HSS HSP hb1
          subst hb0
          rw [HG.out] at HM1
          clear HGG
          go_wp2
          go_roundw
          case rel => exact ⟨k + 1, by omega, by rw [HT1.out]; go_num, by rw [HM1.out]; go_num, by rw [HM1.out]; go_num, by go_num, HL2, HX2⟩
          case measure => simp [intOf]; omega
        · have hbne : ¬ b1 = 0 := by omega
          by_cases hgl : G < l1
          · have HM1 : Hid (midS d (k + 1) = (k + 1, G)) := by show _ = _; rw [HSS.out, if_pos (.inr hgl)]
            rw [HG.out] at HM1 hgl
            clear HSS HSP HGG
            go_wp2
            go_roundw
            case rel => exact ⟨k + 1, by omega, by rw [HT1.out]; go_num, by rw [HM1.out]; go_num, by rw [HM1.out]; go_num, by go_num, HL2, HX2⟩
            case measure => simp [intOf]; omega
          · have HM1 : Hid (midS d (k + 1) = (b1, l1)) := by show _ = _; rw [HSS.out, if_neg (fun h => by rcases h with h | h; exact hbne h; exact hgl h), HSP.out]
            rw [HG.out] at hgl
            have hgl2 := Nat.not_lt.1 hgl
            have hgl3 : (2 + (n : Int) + (3 + (x.size : Int) + (y.size : Int)) < (l1 : Int)) = False := eq_false (by omega)
            have hbz : ((b1 : Int) == 0) = false := by rw [beq_eq_false_iff_ne]; omega
            clear HSS HSP HGG hgl
            go_wp2
            go_roundw
            case rel => exact ⟨k + 1, by omega, by rw [HT1.out]; go_num, by rw [HM1.out], by rw [HM1.out], by go_num, HL2, HX2⟩
            case measure => simp [intOf]; omega
    · have hkm : k = m := by omega
      subst hkm
      go_wp2
      go_ret
      exact ⟨ret_int (by rw [HC.out]; unfold cutD; have := HMM.out; rw [show d.keys.length - 1 = k by omega]), HL.out⟩
end Go.Proofs.Ytbeldjijnjgbfaa

namespace Go.Proofs.Ytbeldjijnjgbfaa
open Go.RowKit

/-- The builder in block b holds the bytes l; its buffer and itself are the call's own from B on. -/
def IsBd (w : World) (B b : Nat) (l : List UInt8) : Prop := Lib.IsBuilder 129 5 B b (Lib.byteCells l) w
theorem sizeBd : (Try.prog.info? 129).map (·.size) = some 2 := by kernel_rfl
theorem liesBd : liesAt Try.prog Try.prog.depth 129 (2 / Try.prog.cellsOf 129) 0 129 1 = true := by kernel_rfl
theorem infoBd : (Try.prog.info? 5).map (fun i => (i.zero, i.size, i.bytes)) = some (some (.int .u8 0), 1, 1) := by kernel_rfl

theorem IsBd.new (w : World) (B : Nat) (hB : B ≤ w.heap.size) : IsBd (w.alloc (.cells #[.pointer none, .slice none 0 0] 129)) B w.heap.size [] :=
  .inl ⟨hB, .slice none 0 0, heap_alloc_new w _, World.ownsRow_nil _ _ _ _, by simp [Value.ownBlock]⟩

set_option maxRecDepth 100000 in
set_option maxHeartbeats 1000000 in
theorem bdcheck_fresh (b : Nat) (w : World) (h0 : w.cell? ⟨b, 0, none⟩ = some (.pointer none)) (hsh : w.shape? b = some (129, 2)) (hfz : w.frozen? ⟨b, 0, none⟩ = false) :
    Calls Try.prog 80 #[.pointer (some ⟨b, 0, none⟩)] w fun e w' => e = .returned (.tuple #[]) ∧ w' = w.setCell ⟨b, 0, none⟩ (.pointer (some ⟨b, 0, none⟩)) := by
  obtain ⟨j, hj, hjs⟩ := Option.map_eq_some_iff.1 sizeBd
  go_enter Try.func80, Try.ntmps80
  go_wp2
  rw [Lib.run_to_unsafe w ⟨b, 0, none⟩ Try.underlying126 Try.underlying139 hj (by rw [hjs]; decide) hsh (Nat.zero_lt_succ 1)]
  simp only [Result.andThen]
  rw [Oper.upon_value]
  go_wp2
  rw [run_callFunc_extern Try.func81 (by kernel_rfl) (by kernel_rfl) (by kernel_rfl) (e := Extern.AbiNoEscape.same) (by kernel_rfl)]
  rw [Lib.run_noEscape]
  simp only [Result.andThen]
  rw [Oper.upon_value]
  go_wp2
  rw [Lib.run_from_unsafe w ⟨b, 0, none⟩ Try.underlying139 Try.underlying126 hj hsh liesBd]
  simp only [Result.andThen]
  rw [Oper.upon_value]
  go_wp2
  go_end0
  exact ⟨rfl, rfl⟩

set_option maxRecDepth 100000 in
set_option maxHeartbeats 1000000 in
theorem bdcheck_used (b : Nat) (w : World) (h0 : w.cell? ⟨b, 0, none⟩ = some (.pointer (some ⟨b, 0, none⟩))) :
    Calls Try.prog 80 #[.pointer (some ⟨b, 0, none⟩)] w fun e w' => e = .returned (.tuple #[]) ∧ w' = w := by
  obtain ⟨j, hj, _⟩ := Option.map_eq_some_iff.1 sizeBd
  go_enter Try.func80, Try.ntmps80
  go_wp2
  rw [Lib.run_neq_ptr_same w _ Try.underlying126 hj]
  go_wp2
  go_end0
  exact ⟨rfl, rfl⟩

theorem bdcheck_any (B b : Nat) (l : List UInt8) (w : World) (h : IsBd w B b l) :
    Calls Try.prog 80 #[.pointer (some ⟨b, 0, none⟩)] w fun e w' => e = .returned (.tuple #[]) ∧ Lib.BuilderAt 129 5 B b (.pointer (some ⟨b, 0, none⟩)) (Lib.byteCells l) w' ∧ Below B w w' := by
  rcases h with h | h
  · refine (bdcheck_fresh b w h.cell0 h.shape h.frozen0).mono ?_
    rintro e w' ⟨rfl, rfl⟩
    exact ⟨rfl, h.used _, (Below.refl B w).setCell (p := ⟨b, 0, none⟩) h.1 _⟩
  · refine (bdcheck_used b w h.cell0).mono ?_
    rintro e w' ⟨rfl, rfl⟩
    exact ⟨rfl, h, Below.refl B _⟩

set_option maxRecDepth 100000 in
set_option maxHeartbeats 2000000 in
/-- 'b.WriteString(s)'. -/
theorem wstr_any (B b : Nat) (l : List UInt8) (s : ByteArray) (w : World) (h : IsBd w B b l) (hlen : l.length + s.size ≤ 1000000) (hBw : B ≤ w.heap.size) :
    Calls Try.prog 74 #[.pointer (some ⟨b, 0, none⟩), .string s] w fun e w' => e = .returned (.tuple #[.int .i64 s.size, .nilIface]) ∧ IsBd w' B b (l ++ s.data.toList) ∧ Below B w w' := by
  obtain ⟨i0, hi, hz0, hz1, hz2⟩ := info_parts infoBd
  have hll : (Lib.byteCells l).length = l.length := Lib.byteCells_length l
  go_enter Try.func74, Try.ntmps74
  go_wp2_with fail
  refine (bdcheck_any B b l _ h).mono ?_
  rintro e w1 ⟨rfl, h1, hb1⟩
  obtain ⟨hB, v, hbk, hown, hne⟩ := h1
  have c0 : w1.cell? ⟨b, 0, none⟩ = some (.pointer (some ⟨b, 0, none⟩)) := by rw [Lib.cell_of_heap hbk]; rfl
  have c1 : w1.cell? ⟨b, 1, none⟩ = some v := by rw [Lib.cell_of_heap hbk]; rfl
  go_wp2_with (at_builtin; refine Lib.wpList_append_own_string _ rfl _ _ 127 9 rfl B 5 i0 Try.underlying127 Try.underlying9 hi hz0 hz1 hz2 _ _ _ rfl hown s rfl ?c3 ?c4 ?c5 ?_)
  case c3 => rw [hll]; unfold maxLen; omega
  case c4 => rw [hll]; omega
  case c5 => have := hb1.size; omega
  intro v' w2 hown' hgrow _
  have hlt : b < w1.heap.size := lt_of_block hbk
  have hb2 : w2.heap[b]? = some (.cells #[.pointer (some ⟨b, 0, none⟩), v] 129 (0, 0)) := by
    rw [hgrow.block b hlt (fun e => hne e.symm)]
    exact hbk
  have d0 : w2.cell? ⟨b, 0, none⟩ = some (.pointer (some ⟨b, 0, none⟩)) := by rw [Lib.cell_of_heap hb2]; rfl
  have d1 : w2.cell? ⟨b, 1, none⟩ = some v := by rw [Lib.cell_of_heap hb2]; rfl
  have f1 : w2.frozen? ⟨b, 1, none⟩ = false := Lib.frozen_of_heap hb2 1
  obtain ⟨ao, n', cap, rfl⟩ : ∃ ao n' cap, v' = .slice ao n' cap := by
    rcases hown'.2 with ⟨hv, _⟩ | ⟨g, cap, cur, hv, _⟩
    · exact ⟨_, _, _, hv⟩
    · exact ⟨_, _, _, hv⟩
  go_wp2
  go_ret2
  refine ⟨rfl, .inr ?_, ?_⟩
  · rw [Lib.byteCells_append, ← Lib.strCells_eq]
    exact Lib.BuilderAt.put (T := 129) (e := 5) hB hb2 (bs' := Lib.byteCells l ++ Lib.strCells s) (by rw [List.length_append, Lib.strCells_length, hll]; exact hown') (by decide)
  · exact (hb1.grown hgrow (by have := hb1.size; omega) (fun k hk => (hown.lt k hk).1)).setCell (p := ⟨b, 1, none⟩) hB _

/-! String: the shelf's contract, laid by names. -/
def bdRen : Go.Shelf.Ren := ⟨fun | 169 => 77 | n => n, fun | 70 => 126 | 9 => 9 | 0 => 0 | 72 => 129 | 37 => 127 | 127 => 138 | 3 => 3 | 5 => 5 | n => n, fun | n => n⟩
theorem bdLays : Go.Proofs.Lays.n169 Try.prog bdRen := {
  mixed := by kernel_rfl
  f169 := Try.func77.trans (congrArg some (by kernel_rfl))
  t0 := Try.underlying0
  a0 := Try.isAgg0
  z0 := Try.sizeOf0
  v0 := Try.zeroValue0
  t3 := Try.underlying3
  a3 := Try.isAgg3
  z3 := Try.sizeOf3
  v3 := Try.zeroValue3
  t9 := Try.underlying9
  a9 := Try.isAgg9
  z9 := Try.sizeOf9
  v9 := Try.zeroValue9
  t37 := Try.underlying127
  a37 := Try.isAgg127
  z37 := Try.sizeOf127
  v37 := Try.zeroValue127
  t70 := Try.underlying126
  a70 := Try.isAgg126
  z70 := Try.sizeOf126
  v70 := Try.zeroValue126
  t72 := Try.underlying129
  a72 := Try.isAgg129
  z72 := Try.sizeOf129
  v72 := Try.zeroValue129
  t127 := Try.underlying138
  a127 := Try.isAgg138
  z127 := Try.sizeOf138
  v127 := Try.zeroValue138 }
theorem bdExtra : Builder.Extra Try.prog bdRen := {
  sizeBuilder := by kernel_rfl
  liesBuilder := by kernel_rfl
  t5 := Try.underlying5
  a5 := Try.isAgg5
  z5 := Try.sizeOf5
  v5 := Try.zeroValue5
  infoByte := by kernel_rfl
  cellsByte := by kernel_rfl
  sizeByte := by kernel_rfl
  neB5 := by decide }
theorem bstr_any (B b : Nat) (l : List UInt8) (w : World) (h : IsBd w B b l) (hBw : B ≤ w.heap.size) :
    Calls Try.prog 77 #[.pointer (some ⟨b, 0, none⟩)] w fun e w' => e = .returned (.string ⟨l.toArray⟩) ∧ Below B w w' := Any.Builder_String_any bdLays bdExtra B b l w h hBw
end Go.Proofs.Ytbeldjijnjgbfaa
