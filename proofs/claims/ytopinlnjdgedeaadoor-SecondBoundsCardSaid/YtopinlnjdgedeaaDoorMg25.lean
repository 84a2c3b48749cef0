/-
  Texts put together: ClogC, Builder, ClogD.
-/
import Derived.Test.YtopinlnjdgedeaaDoorMg2
import Derived.Test.YtopinlnjdgedeaaDoorMg1
import Derived.Shelf.Strings.Builder1
import Derived.Test.YtopinlnjdgedeaaDoorMg19
import Derived.Test.YtopinlnjdgedeaaDoorMg3
namespace Go.Proofs.YtopinlnjdgedeaaDoor
open Go.RowKit

set_option maxRecDepth 100000 in
set_option maxHeartbeats 1000000 in
theorem ccheck_any (seq : Int) (a : Option Addr) (cap : Nat) (l : List CgE) (w : World) (h : SlC w a l) :
    Calls Tryd.prog 50 #[.agg #[.int .i64 seq, .slice a l.length cap]] w fun e w' => e = .returned (.int .i64 (chkC seq l)) ∧ Below w.heap.size w w' := by
  have H := Lib.hid h
  have HX := Lib.hid ((Below.refl w.heap.size w).alloc (Nat.le_refl _) (.cells #[.int .i64 seq, .slice a l.length cap] 77))
  have BX := Lib.hid (Box.new w 77 #[.int .i64 seq, .slice a l.length cap])
  clear h
  by_cases h0 : 0 ≤ seq
  · by_cases h1 : seq ≤ 1099511627776
    · by_cases h2 : l.length ≤ 7
      · have d0 : decide (seq < 0) = false := decide_eq_false (by omega)
        have d1 : decide (1099511627776 < seq) = false := decide_eq_false (by omega)
        have d2 : decide ((7 : Int) < (l.length : Int)) = false := decide_eq_false (by omega)
        go_enter Tryd.func50, Tryd.ntmps50
        go_wp2_with fail
        generalize World.alloc w _ = wx at *
        have k0 := BX.out.cell 0 _ rfl
        have k1 := BX.out.cell 1 _ rfl
        have HS := Lib.hid (And.intro h0 (And.intro h1 h2))
        clear h0 h1 BX
        go_wp2
        clear k0 k1
        go_loopw [22] (fun i wr => ∃ k : Nat, k ≤ l.length ∧ i = .int .i64 k ∧ Hid (Below w.heap.size w wr) ∧ Hid (∀ j (hj : j < l.length), j < k → MayC l[j])) (fun i _ => l.length - (RowKit.intOf i).toNat)
        case atStart => exact ⟨0, Nat.zero_le _, rfl, HX, fun j hj h => absurd h (Nat.not_lt_zero _)⟩
        case round =>
          clear HX
          obtain ⟨k, hk, rfl, HB, HA⟩ := hrel
          by_cases hlt : k < l.length
          · obtain ⟨b, off, rfl, hb, e0, e1, e2, e3⟩ := (H.out.keep HB.out).get k hlt
            have HC : Hid (MayC l[k] → ∀ j (hj : j < l.length), j < k + 1 → MayC l[j]) := fun h j hj h1 => by
              by_cases hjk : j < k
              · exact HA.out j hj hjk
              · obtain rfl : j = k := by omega
                exact h
            have HN : Hid (¬ MayC l[k] → chkC seq l = 1) := fun h => chkC_no hlt h
            have HLT := Lib.hid hlt
            generalize l[k] = x at *
            obtain ⟨xk, xs, xn, xp⟩ := x
            simp only at e0 e1 e2 e3
            go_wp2_with fail
            refine (cmay_any ⟨xk, xs, xn, xp⟩ _).mono ?_
            rintro e w1 ⟨rfl, hb⟩
            have HB1 := Lib.hid ((HB.out.alloc HB.out.size _).trans (hb.mono (by rw [size_alloc]; have := HB.out.size; omega)))
            clear hb HB HA e0 e1 e2 e3
            by_cases hm : MayC ⟨xk, xs, xn, xp⟩
            · have HA2 := Lib.hid (HC.out hm)
              rw [show decide (MayC ⟨xk, xs, xn, xp⟩) = true from decide_eq_true hm]
              clear hm
              go_wp2
              go_roundw
              case rel => exact ⟨k + 1, HLT.out, by go_num, HB1, HA2⟩
              case measure => have := HLT.out; simp [RowKit.intOf]; omega
            · have HZ := Lib.hid (HN.out hm)
              rw [show decide (MayC ⟨xk, xs, xn, xp⟩) = false from decide_eq_false hm]
              clear hm
              go_wp2
              go_ret
              exact ⟨by rw [HZ.out]; rfl, HB1.out⟩
          · obtain rfl : k = l.length := by omega
            have HZ := Lib.hid (chkC_ok HS.out (fun j hj => HA.out j hj hj))
            clear HA
            go_wp2
            go_ret
            exact ⟨by rw [HZ.out]; rfl, HB.out⟩
      · rw [chkC_bad (fun h => h2 h.2.2)]
        have d0 : decide (seq < 0) = false := decide_eq_false (by omega)
        have d1 : decide (1099511627776 < seq) = false := decide_eq_false (by omega)
        have d2 : decide ((7 : Int) < (l.length : Int)) = true := decide_eq_true (by omega)
        go_enter Tryd.func50, Tryd.ntmps50
        go_wp2_with fail
        generalize World.alloc w _ = wx at *
        have k0 := BX.out.cell 0 _ rfl
        have k1 := BX.out.cell 1 _ rfl
        clear BX
        go_wp2
        go_ret
        exact ⟨rfl, HX.out⟩
    · rw [chkC_bad (fun h => h1 h.2.1)]
      have d0 : decide (seq < 0) = false := decide_eq_false (by omega)
      have d1 : decide (1099511627776 < seq) = true := decide_eq_true (by omega)
      go_enter Tryd.func50, Tryd.ntmps50
      go_wp2_with fail
      generalize World.alloc w _ = wx at *
      have k0 := BX.out.cell 0 _ rfl
      have k1 := BX.out.cell 1 _ rfl
      clear BX
      go_wp2
      go_ret
      exact ⟨rfl, HX.out⟩
  · rw [chkC_bad (fun h => h0 h.1)]
    have d0 : decide (seq < 0) = true := decide_eq_true (by omega)
    go_enter Tryd.func50, Tryd.ntmps50
    go_wp2_with fail
    generalize World.alloc w _ = wx at *
    have k0 := BX.out.cell 0 _ rfl
    have k1 := BX.out.cell 1 _ rfl
    clear BX
    go_wp2
    go_ret
    exact ⟨rfl, HX.out⟩
end Go.Proofs.YtopinlnjdgedeaaDoor

namespace Go.Proofs.YtopinlnjdgedeaaDoor
open Go.RowKit

/-- The builder in block b holds the bytes l; its buffer and itself are the call's own from B on. -/
def IsBd (w : World) (B b : Nat) (l : List UInt8) : Prop := Lib.IsBuilder 108 5 B b (Lib.byteCells l) w
theorem sizeBd : (Tryd.prog.info? 108).map (·.size) = some 2 := by kernel_rfl
theorem liesBd : liesAt Tryd.prog Tryd.prog.depth 108 (2 / Tryd.prog.cellsOf 108) 0 108 1 = true := by kernel_rfl
theorem infoBd : (Tryd.prog.info? 5).map (fun i => (i.zero, i.size, i.bytes)) = some (some (.int .u8 0), 1, 1) := by kernel_rfl

theorem IsBd.new (w : World) (B : Nat) (hB : B ≤ w.heap.size) : IsBd (w.alloc (.cells #[.pointer none, .slice none 0 0] 108)) B w.heap.size [] :=
  .inl ⟨hB, .slice none 0 0, heap_alloc_new w _, World.ownsRow_nil _ _ _ _, by simp [Value.ownBlock]⟩

set_option maxRecDepth 100000 in
set_option maxHeartbeats 1000000 in
theorem bdcheck_fresh (b : Nat) (w : World) (h0 : w.cell? ⟨b, 0, none⟩ = some (.pointer none)) (hsh : w.shape? b = some (108, 2)) (hfz : w.frozen? ⟨b, 0, none⟩ = false) :
    Calls Tryd.prog 70 #[.pointer (some ⟨b, 0, none⟩)] w fun e w' => e = .returned (.tuple #[]) ∧ w' = w.setCell ⟨b, 0, none⟩ (.pointer (some ⟨b, 0, none⟩)) := by
  obtain ⟨j, hj, hjs⟩ := Option.map_eq_some_iff.1 sizeBd
  go_enter Tryd.func70, Tryd.ntmps70
  go_wp2
  rw [Lib.run_to_unsafe w ⟨b, 0, none⟩ Tryd.underlying105 Tryd.underlying136 hj (by rw [hjs]; decide) hsh (Nat.zero_lt_succ 1)]
  simp only [Result.andThen]
  rw [Oper.upon_value]
  go_wp2
  rw [run_callFunc_extern Tryd.func79 (by kernel_rfl) (by kernel_rfl) (by kernel_rfl) (e := Extern.AbiNoEscape.same) (by kernel_rfl)]
  rw [Lib.run_noEscape]
  simp only [Result.andThen]
  rw [Oper.upon_value]
  go_wp2
  rw [Lib.run_from_unsafe w ⟨b, 0, none⟩ Tryd.underlying136 Tryd.underlying105 hj hsh liesBd]
  simp only [Result.andThen]
  rw [Oper.upon_value]
  go_wp2
  go_end0
  exact ⟨rfl, rfl⟩

set_option maxRecDepth 100000 in
set_option maxHeartbeats 1000000 in
theorem bdcheck_used (b : Nat) (w : World) (h0 : w.cell? ⟨b, 0, none⟩ = some (.pointer (some ⟨b, 0, none⟩))) :
    Calls Tryd.prog 70 #[.pointer (some ⟨b, 0, none⟩)] w fun e w' => e = .returned (.tuple #[]) ∧ w' = w := by
  obtain ⟨j, hj, _⟩ := Option.map_eq_some_iff.1 sizeBd
  go_enter Tryd.func70, Tryd.ntmps70
  go_wp2
  rw [Lib.run_neq_ptr_same w _ Tryd.underlying105 hj]
  go_wp2
  go_end0
  exact ⟨rfl, rfl⟩

theorem bdcheck_any (B b : Nat) (l : List UInt8) (w : World) (h : IsBd w B b l) :
    Calls Tryd.prog 70 #[.pointer (some ⟨b, 0, none⟩)] w fun e w' => e = .returned (.tuple #[]) ∧ Lib.BuilderAt 108 5 B b (.pointer (some ⟨b, 0, none⟩)) (Lib.byteCells l) w' ∧ Below B w w' := by
  rcases h with h | h
  · refine (bdcheck_fresh b w h.cell0 h.shape h.frozen0).mono ?_
    rintro e w' ⟨rfl, rfl⟩
    exact ⟨rfl, h.used _, (Below.refl B w).setCell (p := ⟨b, 0, none⟩) h.1 _⟩
  · refine (bdcheck_used b w h.cell0).mono ?_
    rintro e w' ⟨rfl, rfl⟩
    exact ⟨rfl, h, Below.refl B _⟩

set_option maxRecDepth 100000 in
set_option maxHeartbeats 2000000 in
/-- 'b.WriteString(s)'. -/
theorem wstr_any (B b : Nat) (l : List UInt8) (s : ByteArray) (w : World) (h : IsBd w B b l) (hlen : l.length + s.size ≤ 1000000) (hBw : B ≤ w.heap.size) :
    Calls Tryd.prog 54 #[.pointer (some ⟨b, 0, none⟩), .string s] w fun e w' => e = .returned (.tuple #[.int .i64 s.size, .nilIface]) ∧ IsBd w' B b (l ++ s.data.toList) ∧ Below B w w' := by
  obtain ⟨i0, hi, hz0, hz1, hz2⟩ := info_parts infoBd
  have hll : (Lib.byteCells l).length = l.length := Lib.byteCells_length l
  go_enter Tryd.func54, Tryd.ntmps54
  go_wp2_with fail
  refine (bdcheck_any B b l _ h).mono ?_
  rintro e w1 ⟨rfl, h1, hb1⟩
  obtain ⟨hB, v, hbk, hown, hne⟩ := h1
  have c0 : w1.cell? ⟨b, 0, none⟩ = some (.pointer (some ⟨b, 0, none⟩)) := by rw [Lib.cell_of_heap hbk]; rfl
  have c1 : w1.cell? ⟨b, 1, none⟩ = some v := by rw [Lib.cell_of_heap hbk]; rfl
  go_wp2_with (at_builtin; refine Lib.wpList_append_own_string _ rfl _ _ 106 9 rfl B 5 i0 Tryd.underlying106 Tryd.underlying9 hi hz0 hz1 hz2 _ _ _ rfl hown s rfl ?c3 ?c4 ?c5 ?_)
  case c3 => rw [hll]; unfold maxLen; omega
  case c4 => rw [hll]; omega
  case c5 => have := hb1.size; omega
  intro v' w2 hown' hgrow _
  have hlt : b < w1.heap.size := lt_of_block hbk
  have hb2 : w2.heap[b]? = some (.cells #[.pointer (some ⟨b, 0, none⟩), v] 108 (0, 0)) := by
    rw [hgrow.block b hlt (fun e => hne e.symm)]
    exact hbk
  have d0 : w2.cell? ⟨b, 0, none⟩ = some (.pointer (some ⟨b, 0, none⟩)) := by rw [Lib.cell_of_heap hb2]; rfl
  have d1 : w2.cell? ⟨b, 1, none⟩ = some v := by rw [Lib.cell_of_heap hb2]; rfl
  have f1 : w2.frozen? ⟨b, 1, none⟩ = false := Lib.frozen_of_heap hb2 1
  obtain ⟨ao, n', cap, rfl⟩ : ∃ ao n' cap, v' = .slice ao n' cap := by
    rcases hown'.2 with ⟨hv, _⟩ | ⟨g, cap, cur, hv, _⟩
    · exact ⟨_, _, _, hv⟩
    · exact ⟨_, _, _, hv⟩
  go_wp2
  go_ret2
  refine ⟨rfl, .inr ?_, ?_⟩
  · rw [Lib.byteCells_append, ← Lib.strCells_eq]
    exact Lib.BuilderAt.put (T := 108) (e := 5) hB hb2 (bs' := Lib.byteCells l ++ Lib.strCells s) (by rw [List.length_append, Lib.strCells_length, hll]; exact hown') (by decide)
  · exact (hb1.grown hgrow (by have := hb1.size; omega) (fun k hk => (hown.lt k hk).1)).setCell (p := ⟨b, 1, none⟩) hB _

/-! String: the shelf's contract, laid by names. -/
def bdRen : Go.Shelf.Ren := ⟨fun | 169 => 57 | n => n, fun | 70 => 105 | 9 => 9 | 0 => 0 | 72 => 108 | 37 => 106 | 127 => 125 | 3 => 3 | 5 => 5 | n => n, fun | n => n⟩
theorem bdLays : Go.Proofs.Lays.n169 Tryd.prog bdRen := {
  mixed := by kernel_rfl
  f169 := Tryd.func57.trans (congrArg some (by kernel_rfl))
  t0 := Tryd.underlying0
  a0 := Tryd.isAgg0
  z0 := Tryd.sizeOf0
  v0 := Tryd.zeroValue0
  t3 := Tryd.underlying3
  a3 := Tryd.isAgg3
  z3 := Tryd.sizeOf3
  v3 := Tryd.zeroValue3
  t9 := Tryd.underlying9
  a9 := Tryd.isAgg9
  z9 := Tryd.sizeOf9
  v9 := Tryd.zeroValue9
  t37 := Tryd.underlying106
  a37 := Tryd.isAgg106
  z37 := Tryd.sizeOf106
  v37 := Tryd.zeroValue106
  t70 := Tryd.underlying105
  a70 := Tryd.isAgg105
  z70 := Tryd.sizeOf105
  v70 := Tryd.zeroValue105
  t72 := Tryd.underlying108
  a72 := Tryd.isAgg108
  z72 := Tryd.sizeOf108
  v72 := Tryd.zeroValue108
  t127 := Tryd.underlying125
  a127 := Tryd.isAgg125
  z127 := Tryd.sizeOf125
  v127 := Tryd.zeroValue125 }
theorem bdExtra : Builder.Extra Tryd.prog bdRen := {
  sizeBuilder := by kernel_rfl
  liesBuilder := by kernel_rfl
  t5 := Tryd.underlying5
  a5 := Tryd.isAgg5
  z5 := Tryd.sizeOf5
  v5 := Tryd.zeroValue5
  infoByte := by kernel_rfl
  cellsByte := by kernel_rfl
  sizeByte := by kernel_rfl
  neB5 := by decide }
theorem bstr_any (B b : Nat) (l : List UInt8) (w : World) (h : IsBd w B b l) (hBw : B ≤ w.heap.size) :
    Calls Tryd.prog 57 #[.pointer (some ⟨b, 0, none⟩)] w fun e w' => e = .returned (.string ⟨l.toArray⟩) ∧ Below B w w' := Any.Builder_String_any bdLays bdExtra B b l w h hBw
end Go.Proofs.YtopinlnjdgedeaaDoor

namespace Go.Proofs.YtopinlnjdgedeaaDoor
open Go.RowKit

/-- The builder in block b holds the text S; its buffer lies behind it. -/
def IsBs (w : World) (b : Nat) (S : ByteArray) : Prop := IsBd w b b S.data.toList
theorem IsBd.keep {w w' : World} {B b : Nat} {l : List UInt8} (h : IsBd w B b l) (hb : Below w.heap.size w w') : IsBd w' B b l := by
  have key : ∀ p, Lib.BuilderAt 108 5 B b p (Lib.byteCells l) w → Lib.BuilderAt 108 5 B b p (Lib.byteCells l) w' := by
    rintro p ⟨hB, v, hbk, hown, hne⟩
    exact ⟨hB, v, (hb.block b (lt_of_block hbk)).trans hbk, ownsRow_of hown fun k _ hlt => hb.block k hlt, hne⟩
  rcases h with h | h
  · exact .inl (key _ h)
  · exact .inr (key _ h)
theorem IsBd.lt {w : World} {B b : Nat} {l : List UInt8} (h : IsBd w B b l) : b < w.heap.size := by
  rcases h with h | h
  · exact h.lt
  · exact h.lt
theorem IsBs.keep {w w' : World} {b : Nat} {S : ByteArray} (h : IsBs w b S) (hb : Below w.heap.size w w') : IsBs w' b S := IsBd.keep h hb
theorem IsBs.lt {w : World} {b : Nat} {S : ByteArray} (h : IsBs w b S) : b < w.heap.size := IsBd.lt h
theorem IsBs.new (w : World) : IsBs (w.alloc (.cells #[.pointer none, .slice none 0 0] 108)) w.heap.size ⟨#[]⟩ := IsBd.new w _ (Nat.le_refl _)
theorem wstr_bs (b : Nat) (S s : ByteArray) (w : World) (h : IsBs w b S) (hl : S.size + s.size ≤ 1000000) :
    Calls Tryd.prog 54 #[.pointer (some ⟨b, 0, none⟩), .string s] w fun e w' => e = .returned (.tuple #[.int .i64 s.size, .nilIface]) ∧ IsBs w' b (S ++ s) ∧ Below b w w' := by
  refine (wstr_any b b _ s w h (by rw [Array.length_toList]; exact hl) (Nat.le_of_lt h.lt)).mono ?_
  rintro e w' ⟨rfl, h1, h2⟩
  refine ⟨rfl, ?_, h2⟩
  unfold IsBs
  rw [ByteArray.data_append, Array.toList_append]
  exact h1
theorem bstr_bs (b : Nat) (S : ByteArray) (w : World) (h : IsBs w b S) :
    Calls Tryd.prog 57 #[.pointer (some ⟨b, 0, none⟩)] w fun e w' => e = .returned (.string S) ∧ Below b w w' :=
  bstr_any b b _ w h (Nat.le_of_lt h.lt)

def markC : ByteArray := ⟨#[80, 76]⟩
def entB (x : CgE) : ByteArray := textB x.key 1 ++ x.sum ++ putB x.len 2 ++ putB x.pos 2
def headC (seq : Int) (n : Nat) : ByteArray := markC ++ putB seq 6 ++ putB n 1
def entsK (acc : ByteArray) (l : List CgE) : ByteArray := l.foldl (fun s x => s ++ entB x) acc
def bodyC (seq : Int) (l : List CgE) : ByteArray := entsK (headC seq l.length) l
/-- Encode's answer. -/
def encC (seq : Int) (l : List CgE) : ByteArray × Int := if chkC seq l = 0 then (bodyC seq l ++ sha (bodyC seq l), 0) else (⟨#[]⟩, chkC seq l)
theorem entsK_snoc (acc : ByteArray) (l : List CgE) (k : Nat) (h : k < l.length) : entsK acc (l.take (k + 1)) = entsK acc (l.take k) ++ entB l[k] := by
  rw [List.take_succ_eq_append_getElem h]
  unfold entsK
  rw [List.foldl_append]
  rfl
theorem textB_le (s : ByteArray) (w : Int) : (textB s w).size ≤ 7 + s.size := by
  unfold textB
  split
  · exact Nat.zero_le _
  · have := putB_size s.size w
    rw [ByteArray.size_append]
    omega
theorem entB_le {x : CgE} (h : MayC x) : (entB x).size ≤ 120 := by
  obtain ⟨h1, h2, h3, _⟩ := h
  have a1 := textB_le x.key 1
  have a2 := putB_size x.len 2
  have a3 := putB_size x.pos 2
  unfold entB
  simp only [ByteArray.size_append]
  omega
theorem headC_le (seq : Int) (n : Nat) : (headC seq n).size ≤ 16 := by
  have a2 := putB_size seq 6
  have a3 := putB_size n 1
  have a1 : markC.size = 2 := rfl
  unfold headC
  simp only [ByteArray.size_append]
  omega
theorem entsK_le : ∀ (l : List CgE) (acc : ByteArray), (∀ x ∈ l, MayC x) → (entsK acc l).size ≤ acc.size + 120 * l.length
  | [], _, _ => Nat.le_add_right _ _
  | x :: r, acc, h => by
    have h1 := entsK_le r (acc ++ entB x) (fun y hy => h y (List.mem_cons_of_mem _ hy))
    have h2 := entB_le (h x List.mem_cons_self)
    rw [ByteArray.size_append] at h1
    show (entsK (acc ++ entB x) r).size ≤ _
    simp only [List.length_cons]
    omega
theorem chkC_zero {seq : Int} {l : List CgE} (h : chkC seq l = 0) : 0 ≤ seq ∧ seq ≤ 1099511627776 ∧ l.length ≤ 7 ∧ ∀ x ∈ l, MayC x := by
  unfold chkC at h
  split at h
  · assumption
  · cases h
theorem chkC_or (seq : Int) (l : List CgE) : chkC seq l = 0 ∨ chkC seq l = 1 := by
  unfold chkC
  split
  · exact .inl rfl
  · exact .inr rfl
end Go.Proofs.YtopinlnjdgedeaaDoor
