/-
  Texts put together: Builder, ClogD, ClogE, SeH.
-/
import Derived.Test.YtphhnhldbajaoaaGreatDoorMg0
import Derived.Test.YtphhnhldbajaoaaGreatDoorMg14
import Derived.Shelf.Strings.Builder1
import Derived.Test.YtphhnhldbajaoaaGreatDoorMg24
import Derived.Test.YtphhnhldbajaoaaGreatDoorMg13
import Derived.Test.YtphhnhldbajaoaaGreatDoorMg15
import Derived.Test.YtphhnhldbajaoaaGreatDoorMg10
import Derived.Test.YtphhnhldbajaoaaGreatDoorMg23
namespace Go.Proofs.YtphhnhldbajaoaaGreatDoor
open Go.RowKit

/-- The builder in block b holds the bytes l; its buffer and itself are the call's own from B on. -/
def IsBd (w : World) (B b : Nat) (l : List UInt8) : Prop := Lib.IsBuilder 226 5 B b (Lib.byteCells l) w
theorem sizeBd : (Tryz.prog.info? 226).map (·.size) = some 2 := by kernel_rfl
theorem liesBd : liesAt Tryz.prog Tryz.prog.depth 226 (2 / Tryz.prog.cellsOf 226) 0 226 1 = true := by kernel_rfl
theorem infoBd : (Tryz.prog.info? 5).map (fun i => (i.zero, i.size, i.bytes)) = some (some (.int .u8 0), 1, 1) := by kernel_rfl

theorem IsBd.new (w : World) (B : Nat) (hB : B ≤ w.heap.size) : IsBd (w.alloc (.cells #[.pointer none, .slice none 0 0] 226)) B w.heap.size [] :=
  .inl ⟨hB, .slice none 0 0, heap_alloc_new w _, World.ownsRow_nil _ _ _ _, by simp [Value.ownBlock]⟩

set_option maxRecDepth 100000 in
set_option maxHeartbeats 1000000 in
theorem bdcheck_fresh (b : Nat) (w : World) (h0 : w.cell? ⟨b, 0, none⟩ = some (.pointer none)) (hsh : w.shape? b = some (226, 2)) (hfz : w.frozen? ⟨b, 0, none⟩ = false) :
    Calls Tryz.prog 174 #[.pointer (some ⟨b, 0, none⟩)] w fun e w' => e = .returned (.tuple #[]) ∧ w' = w.setCell ⟨b, 0, none⟩ (.pointer (some ⟨b, 0, none⟩)) := by
  obtain ⟨j, hj, hjs⟩ := Option.map_eq_some_iff.1 sizeBd
  go_enter Tryz.func174, Tryz.ntmps174
  go_wp2
  rw [Lib.run_to_unsafe w ⟨b, 0, none⟩ Tryz.underlying224 Tryz.underlying245 hj (by rw [hjs]; decide) hsh (Nat.zero_lt_succ 1)]
  simp only [Result.andThen]
  rw [Oper.upon_value]
  go_wp2
  rw [run_callFunc_extern Tryz.func180 (by kernel_rfl) (by kernel_rfl) (by kernel_rfl) (e := Extern.AbiNoEscape.same) (by kernel_rfl)]
  rw [Lib.run_noEscape]
  simp only [Result.andThen]
  rw [Oper.upon_value]
  go_wp2
  rw [Lib.run_from_unsafe w ⟨b, 0, none⟩ Tryz.underlying245 Tryz.underlying224 hj hsh liesBd]
  simp only [Result.andThen]
  rw [Oper.upon_value]
  go_wp2
  go_end0
  exact ⟨rfl, rfl⟩

set_option maxRecDepth 100000 in
set_option maxHeartbeats 1000000 in
theorem bdcheck_used (b : Nat) (w : World) (h0 : w.cell? ⟨b, 0, none⟩ = some (.pointer (some ⟨b, 0, none⟩))) :
    Calls Tryz.prog 174 #[.pointer (some ⟨b, 0, none⟩)] w fun e w' => e = .returned (.tuple #[]) ∧ w' = w := by
  obtain ⟨j, hj, _⟩ := Option.map_eq_some_iff.1 sizeBd
  go_enter Tryz.func174, Tryz.ntmps174
  go_wp2
  rw [Lib.run_neq_ptr_same w _ Tryz.underlying224 hj]
  go_wp2
  go_end0
  exact ⟨rfl, rfl⟩

theorem bdcheck_any (B b : Nat) (l : List UInt8) (w : World) (h : IsBd w B b l) :
    Calls Tryz.prog 174 #[.pointer (some ⟨b, 0, none⟩)] w fun e w' => e = .returned (.tuple #[]) ∧ Lib.BuilderAt 226 5 B b (.pointer (some ⟨b, 0, none⟩)) (Lib.byteCells l) w' ∧ Below B w w' := by
  rcases h with h | h
  · refine (bdcheck_fresh b w h.cell0 h.shape h.frozen0).mono ?_
    rintro e w' ⟨rfl, rfl⟩
    exact ⟨rfl, h.used _, (Below.refl B w).setCell (p := ⟨b, 0, none⟩) h.1 _⟩
  · refine (bdcheck_used b w h.cell0).mono ?_
    rintro e w' ⟨rfl, rfl⟩
    exact ⟨rfl, h, Below.refl B _⟩

set_option maxRecDepth 100000 in
set_option maxHeartbeats 2000000 in
/-- 'b.WriteString(s)'. -/
theorem wstr_any (B b : Nat) (l : List UInt8) (s : ByteArray) (w : World) (h : IsBd w B b l) (hlen : l.length + s.size ≤ 1000000) (hBw : B ≤ w.heap.size) :
    Calls Tryz.prog 163 #[.pointer (some ⟨b, 0, none⟩), .string s] w fun e w' => e = .returned (.tuple #[.int .i64 s.size, .nilIface]) ∧ IsBd w' B b (l ++ s.data.toList) ∧ Below B w w' := by
  obtain ⟨i0, hi, hz0, hz1, hz2⟩ := info_parts infoBd
  have hll : (Lib.byteCells l).length = l.length := Lib.byteCells_length l
  go_enter Tryz.func163, Tryz.ntmps163
  go_wp2_with fail
  refine (bdcheck_any B b l _ h).mono ?_
  rintro e w1 ⟨rfl, h1, hb1⟩
  obtain ⟨hB, v, hbk, hown, hne⟩ := h1
  have c0 : w1.cell? ⟨b, 0, none⟩ = some (.pointer (some ⟨b, 0, none⟩)) := by rw [Lib.cell_of_heap hbk]; rfl
  have c1 : w1.cell? ⟨b, 1, none⟩ = some v := by rw [Lib.cell_of_heap hbk]; rfl
  go_wp2_with (at_builtin; refine Lib.wpList_append_own_string _ rfl _ _ 80 9 rfl B 5 i0 Tryz.underlying80 Tryz.underlying9 hi hz0 hz1 hz2 _ _ _ rfl hown s rfl ?c3 ?c4 ?c5 ?_)
  case c3 => rw [hll]; unfold maxLen; omega
  case c4 => rw [hll]; omega
  case c5 => have := hb1.size; omega
  intro v' w2 hown' hgrow _
  have hlt : b < w1.heap.size := lt_of_block hbk
  have hb2 : w2.heap[b]? = some (.cells #[.pointer (some ⟨b, 0, none⟩), v] 226 (0, 0)) := by
    rw [hgrow.block b hlt (fun e => hne e.symm)]
    exact hbk
  have d0 : w2.cell? ⟨b, 0, none⟩ = some (.pointer (some ⟨b, 0, none⟩)) := by rw [Lib.cell_of_heap hb2]; rfl
  have d1 : w2.cell? ⟨b, 1, none⟩ = some v := by rw [Lib.cell_of_heap hb2]; rfl
  have f1 : w2.frozen? ⟨b, 1, none⟩ = false := Lib.frozen_of_heap hb2 1
  obtain ⟨ao, n', cap, rfl⟩ : ∃ ao n' cap, v' = .slice ao n' cap := by
    rcases hown'.2 with ⟨hv, _⟩ | ⟨g, cap, cur, hv, _⟩
    · exact ⟨_, _, _, hv⟩
    · exact ⟨_, _, _, hv⟩
  go_wp2
  go_ret2
  refine ⟨rfl, .inr ?_, ?_⟩
  · rw [Lib.byteCells_append, ← Lib.strCells_eq]
    exact Lib.BuilderAt.put (T := 226) (e := 5) hB hb2 (bs' := Lib.byteCells l ++ Lib.strCells s) (by rw [List.length_append, Lib.strCells_length, hll]; exact hown') (by decide)
  · exact (hb1.grown hgrow (by have := hb1.size; omega) (fun k hk => (hown.lt k hk).1)).setCell (p := ⟨b, 1, none⟩) hB _

/-! String: the shelf's contract, laid by names. -/
def bdRen : Go.Shelf.Ren := ⟨fun | 169 => 165 | n => n, fun | 70 => 224 | 9 => 9 | 0 => 0 | 72 => 226 | 37 => 80 | 127 => 240 | 3 => 3 | 5 => 5 | n => n, fun | n => n⟩
theorem bdLays : Go.Proofs.Lays.n169 Tryz.prog bdRen := {
  mixed := by kernel_rfl
  f169 := Tryz.func165.trans (congrArg some (by kernel_rfl))
  t0 := Tryz.underlying0
  a0 := Tryz.isAgg0
  z0 := Tryz.sizeOf0
  v0 := Tryz.zeroValue0
  t3 := Tryz.underlying3
  a3 := Tryz.isAgg3
  z3 := Tryz.sizeOf3
  v3 := Tryz.zeroValue3
  t9 := Tryz.underlying9
  a9 := Tryz.isAgg9
  z9 := Tryz.sizeOf9
  v9 := Tryz.zeroValue9
  t37 := Tryz.underlying80
  a37 := Tryz.isAgg80
  z37 := Tryz.sizeOf80
  v37 := Tryz.zeroValue80
  t70 := Tryz.underlying224
  a70 := Tryz.isAgg224
  z70 := Tryz.sizeOf224
  v70 := Tryz.zeroValue224
  t72 := Tryz.underlying226
  a72 := Tryz.isAgg226
  z72 := Tryz.sizeOf226
  v72 := Tryz.zeroValue226
  t127 := Tryz.underlying240
  a127 := Tryz.isAgg240
  z127 := Tryz.sizeOf240
  v127 := Tryz.zeroValue240 }
theorem bdExtra : Builder.Extra Tryz.prog bdRen := {
  sizeBuilder := by kernel_rfl
  liesBuilder := by kernel_rfl
  t5 := Tryz.underlying5
  a5 := Tryz.isAgg5
  z5 := Tryz.sizeOf5
  v5 := Tryz.zeroValue5
  infoByte := by kernel_rfl
  cellsByte := by kernel_rfl
  sizeByte := by kernel_rfl
  neB5 := by decide }
theorem bstr_any (B b : Nat) (l : List UInt8) (w : World) (h : IsBd w B b l) (hBw : B ≤ w.heap.size) :
    Calls Tryz.prog 165 #[.pointer (some ⟨b, 0, none⟩)] w fun e w' => e = .returned (.string ⟨l.toArray⟩) ∧ Below B w w' := Any.Builder_String_any bdLays bdExtra B b l w h hBw
end Go.Proofs.YtphhnhldbajaoaaGreatDoor

namespace Go.Proofs.YtphhnhldbajaoaaGreatDoor
open Go.RowKit

/-- The builder in block b holds the text S; its buffer lies behind it. -/
def IsBs (w : World) (b : Nat) (S : ByteArray) : Prop := IsBd w b b S.data.toList
theorem IsBd.keep {w w' : World} {B b : Nat} {l : List UInt8} (h : IsBd w B b l) (hb : Below w.heap.size w w') : IsBd w' B b l := by
  have key : ∀ p, Lib.BuilderAt 226 5 B b p (Lib.byteCells l) w → Lib.BuilderAt 226 5 B b p (Lib.byteCells l) w' := by
    rintro p ⟨hB, v, hbk, hown, hne⟩
    exact ⟨hB, v, (hb.block b (lt_of_block hbk)).trans hbk, ownsRow_of hown fun k _ hlt => hb.block k hlt, hne⟩
  rcases h with h | h
  · exact .inl (key _ h)
  · exact .inr (key _ h)
theorem IsBd.lt {w : World} {B b : Nat} {l : List UInt8} (h : IsBd w B b l) : b < w.heap.size := by
  rcases h with h | h
  · exact h.lt
  · exact h.lt
theorem IsBs.keep {w w' : World} {b : Nat} {S : ByteArray} (h : IsBs w b S) (hb : Below w.heap.size w w') : IsBs w' b S := IsBd.keep h hb
theorem IsBs.lt {w : World} {b : Nat} {S : ByteArray} (h : IsBs w b S) : b < w.heap.size := IsBd.lt h
theorem IsBs.new (w : World) : IsBs (w.alloc (.cells #[.pointer none, .slice none 0 0] 226)) w.heap.size ⟨#[]⟩ := IsBd.new w _ (Nat.le_refl _)
theorem wstr_bs (b : Nat) (S s : ByteArray) (w : World) (h : IsBs w b S) (hl : S.size + s.size ≤ 1000000) :
    Calls Tryz.prog 163 #[.pointer (some ⟨b, 0, none⟩), .string s] w fun e w' => e = .returned (.tuple #[.int .i64 s.size, .nilIface]) ∧ IsBs w' b (S ++ s) ∧ Below b w w' := by
  refine (wstr_any b b _ s w h (by rw [Array.length_toList]; exact hl) (Nat.le_of_lt h.lt)).mono ?_
  rintro e w' ⟨rfl, h1, h2⟩
  refine ⟨rfl, ?_, h2⟩
  unfold IsBs
  rw [ByteArray.data_append, Array.toList_append]
  exact h1
theorem bstr_bs (b : Nat) (S : ByteArray) (w : World) (h : IsBs w b S) :
    Calls Tryz.prog 165 #[.pointer (some ⟨b, 0, none⟩)] w fun e w' => e = .returned (.string S) ∧ Below b w w' :=
  bstr_any b b _ w h (Nat.le_of_lt h.lt)

def markC : ByteArray := ⟨#[80, 76]⟩
def entB (x : CgE) : ByteArray := textB x.key 1 ++ x.sum ++ putB x.len 2 ++ putB x.pos 2
def headC (seq : Int) (n : Nat) : ByteArray := markC ++ putB seq 6 ++ putB n 1
def entsK (acc : ByteArray) (l : List CgE) : ByteArray := l.foldl (fun s x => s ++ entB x) acc
def bodyC (seq : Int) (l : List CgE) : ByteArray := entsK (headC seq l.length) l
/-- Encode's answer. -/
def encC (seq : Int) (l : List CgE) : ByteArray × Int := if chkC seq l = 0 then (bodyC seq l ++ sha (bodyC seq l), 0) else (⟨#[]⟩, chkC seq l)
theorem entsK_snoc (acc : ByteArray) (l : List CgE) (k : Nat) (h : k < l.length) : entsK acc (l.take (k + 1)) = entsK acc (l.take k) ++ entB l[k] := by
  rw [List.take_succ_eq_append_getElem h]
  unfold entsK
  rw [List.foldl_append]
  rfl
theorem textB_le (s : ByteArray) (w : Int) : (textB s w).size ≤ 7 + s.size := by
  unfold textB
  split
  · exact Nat.zero_le _
  · have := putB_size s.size w
    rw [ByteArray.size_append]
    omega
theorem entB_le {x : CgE} (h : MayC x) : (entB x).size ≤ 120 := by
  obtain ⟨h1, h2, h3, _⟩ := h
  have a1 := textB_le x.key 1
  have a2 := putB_size x.len 2
  have a3 := putB_size x.pos 2
  unfold entB
  simp only [ByteArray.size_append]
  omega
theorem headC_le (seq : Int) (n : Nat) : (headC seq n).size ≤ 16 := by
  have a2 := putB_size seq 6
  have a3 := putB_size n 1
  have a1 : markC.size = 2 := rfl
  unfold headC
  simp only [ByteArray.size_append]
  omega
theorem entsK_le : ∀ (l : List CgE) (acc : ByteArray), (∀ x ∈ l, MayC x) → (entsK acc l).size ≤ acc.size + 120 * l.length
  | [], _, _ => Nat.le_add_right _ _
  | x :: r, acc, h => by
    have h1 := entsK_le r (acc ++ entB x) (fun y hy => h y (List.mem_cons_of_mem _ hy))
    have h2 := entB_le (h x List.mem_cons_self)
    rw [ByteArray.size_append] at h1
    show (entsK (acc ++ entB x) r).size ≤ _
    simp only [List.length_cons]
    omega
theorem chkC_zero {seq : Int} {l : List CgE} (h : chkC seq l = 0) : 0 ≤ seq ∧ seq ≤ 1099511627776 ∧ l.length ≤ 7 ∧ ∀ x ∈ l, MayC x := by
  unfold chkC at h
  split at h
  · assumption
  · cases h
theorem chkC_or (seq : Int) (l : List CgE) : chkC seq l = 0 ∨ chkC seq l = 1 := by
  unfold chkC
  split
  · exact .inl rfl
  · exact .inr rfl
end Go.Proofs.YtphhnhldbajaoaaGreatDoor

namespace Go.Proofs.YtphhnhldbajaoaaGreatDoor
open Go.RowKit

theorem sha_size' (s : ByteArray) : (sha s).size = 32 := by
  show ((digest _).toArray).size = 32
  rw [List.size_toArray]
  exact digK_length _ 8 (Nat.le_refl _)

set_option maxRecDepth 100000 in
set_option maxHeartbeats 2000000 in
theorem cencode_any (seq : Int) (a : Option Addr) (cap : Nat) (l : List CgE) (w : World) (h : SlC w a l) (hK : Kt w) :
    Calls Tryz.prog 145 #[.agg #[.int .i64 seq, .slice a l.length cap]] w fun e w' => e = .returned (.tuple #[.string (encC seq l).1, .int .i64 (encC seq l).2]) ∧ Below w.heap.size w w' := by
  have H := Lib.hid h
  have HK := Lib.hid hK
  have HP := Lib.hid hK.pos
  have HX := Lib.hid ((Below.refl w.heap.size w).alloc (Nat.le_refl _) (.cells #[.int .i64 seq, .slice a l.length cap] 187))
  have BX := Lib.hid (Box.new w 187 #[.int .i64 seq, .slice a l.length cap])
  clear h hK
  rcases chkC_or seq l with hc | hc
  · obtain ⟨_, _, hl7, hall⟩ := chkC_zero hc
    have HR : Hid (encC seq l = (bodyC seq l ++ sha (bodyC seq l), 0)) := if_pos hc
    have HC := Lib.hid hc
    have HALL := Lib.hid hall
    have HBS : Hid ((bodyC seq l).size ≤ 900) := by
      have h1 := entsK_le l (headC seq l.length) hall
      have h2 := headC_le seq l.length
      have h3 : (bodyC seq l).size ≤ _ := h1
      show _ ≤ _
      omega
    clear hc hall
    go_enter Tryz.func145, Tryz.ntmps145
    go_wp2_with fail
    generalize World.alloc w _ = wx at *
    have k0 := BX.out.cell 0 _ rfl
    have k1 := BX.out.cell 1 _ rfl
    go_wp2_with fail
    refine (ccheck_any seq a cap l _ (H.out.keep HX.out)).mono ?_
    rintro e w1 ⟨rfl, hb⟩
    rw [HC.out]
    have H1 := Lib.hid (HX.out.trans (hb.mono HX.out.size))
    have B1 := Lib.hid (BX.out.keep hb BX.out.lt)
    clear hb k0 k1 HX BX
    obtain ⟨b, hbE⟩ : ∃ b, b = w1.heap.size := ⟨_, rfl⟩
    obtain ⟨g, hg⟩ : ∃ g, g = w.heap.size := ⟨_, rfl⟩
    have HGB : Hid (g < b) := by rw [hbE, hg]; exact B1.out.lt
    have HH2 : Hid (Below g w (w1.alloc (.cells #[.pointer none, .slice none 0 0] 226))) := by rw [hg]; exact H1.out.alloc H1.out.size _
    have B2 : Hid (Box (w1.alloc (.cells #[.pointer none, .slice none 0 0] 226)) g 187 #[.int .i64 seq, .slice a l.length cap]) := by rw [hg]; exact B1.out.keep ((Below.refl w1.heap.size w1).alloc (Nat.le_refl _) _) B1.out.lt
    have S2 : Hid (IsBs (w1.alloc (.cells #[.pointer none, .slice none 0 0] 226)) b ⟨#[]⟩) := by rw [hbE]; exact IsBs.new w1
    have HG := Lib.hid hg
    obtain ⟨p1, hp1⟩ : ∃ p, putB seq 6 = p := ⟨_, rfl⟩
    obtain ⟨p2, hp2⟩ : ∃ p, putB l.length 1 = p := ⟨_, rfl⟩
    have HHD : Hid ((⟨#[80, 76]⟩ : ByteArray) ++ p1 ++ p2 = headC seq l.length) := by rw [← hp1, ← hp2]; rfl
    have z1 := putB_size seq 6
    have z2 := putB_size l.length 1
    rw [hp1] at z1
    rw [hp2] at z2
    have HP1 := Lib.hid hp1
    have HP2 := Lib.hid hp2
    have q1 : ¬ 9223372036854775807 < 2 + p1.size := by omega
    have q2 : ((⟨#[80, 76]⟩ : ByteArray) ++ p1).size = 2 + p1.size := ByteArray.size_append
    have q3 : ¬ 9223372036854775807 < 2 + p1.size + p2.size := by omega
    clear hp1 hp2
    have HBE := Lib.hid hbE
    rw [← hg]
    clear hg hbE
    go_wp2_with fail
    rw [← HBE.out]
    clear H1 B1
    generalize World.alloc w1 _ = w2 at *
    have k0 := B2.out.cell 0 _ rfl
    have k1 := B2.out.cell 1 _ rfl
    refine wp_region_sched (fun W => W.cell? ⟨g, 0, none⟩ = some (.int .i64 seq) ∧ W.cell? ⟨g, 1, none⟩ = some (.slice a l.length cap)) 8 [(0, false), (1, false), (4, false), (5, false), (6, false), (2, true), (3, false), (7, true)] (by kernel_rfl) (by kernel_rfl) ⟨k0, k1⟩ ?_
    simp only [List.drop_succ_cons, List.drop_zero]
    iterate 5 (apply wpSch_step rfl; (intro W hS K hK; obtain ⟨r1, r2⟩ := hS; go_simp; exact hK _ rfl))
    refine wpSch_make rfl (fun K' hK => ?_)
    go_simp
    refine (put_any seq 6 _).mono ?_
    rintro e w3 ⟨rfl, hb⟩
    rw [HP1.out]
    have S3 := Lib.hid ((S2.out.keep (Below.refl _ _).drew).keep hb)
    have B3 := Lib.hid ((B2.out.keep (Below.refl _ _).drew B2.out.lt).keep hb B2.out.lt)
    have H3 := Lib.hid (HH2.out.drew.trans (hb.mono (Nat.le_of_lt B2.out.lt)))
    refine hK _ _ _ (fun _ h => h) ⟨B3.out.cell 0 _ rfl, B3.out.cell 1 _ rfl⟩ ?_
    clear hK K' hb k0 k1 S2 HH2
    apply wpSch_step rfl
    · intro W hS K hK
      obtain ⟨r1, r2⟩ := hS
      go_simp
      exact hK _ rfl
    refine wpSch_make rfl (fun K' hK => ?_)
    go_simp
    refine (put_any l.length 1 _).mono ?_
    rintro e w4 ⟨rfl, hb⟩
    rw [HP2.out]
    have S4 := Lib.hid (S3.out.keep hb)
    have B4 := Lib.hid (B3.out.keep hb B3.out.lt)
    have H4 := Lib.hid (H3.out.trans (hb.mono (Nat.le_of_lt B3.out.lt)))
    refine hK _ _ _ (fun _ h => h) ⟨B4.out.cell 0 _ rfl, B4.out.cell 1 _ rfl⟩ ?_
    clear hK K' hb S3 H3 B2 B3
    refine wpSch_nil ?_
    go_wp2_with fail
    rw [HHD.out]
    refine (wstr_bs b ⟨#[]⟩ (headC seq l.length) _ S4.out (by have h1 := headC_le seq l.length; have h2 : (⟨#[]⟩ : ByteArray).size = 0 := rfl; omega)).mono ?_
    rintro e w5 ⟨rfl, hs, hb⟩
    have S5 : Hid (IsBs w5 b (entsK (headC seq l.length) (l.take 0))) := by
      have h2 : (⟨#[]⟩ : ByteArray) ++ headC seq l.length = headC seq l.length := ByteArray.empty_append
      rw [h2] at hs
      exact hs
    have H5 := Lib.hid (H4.out.trans (hb.mono (Nat.le_of_lt HGB.out)))
    have k1 := (B4.out.keep hb HGB.out).cell 1 _ rfl
    clear hb hs S4 H4 B4 q1 q2 q3 z1 z2 HP1 HP2 HHD
    go_wp2
    clear k1
    go_loopw [27] (fun i wr => ∃ k : Nat, k ≤ l.length ∧ i = .int .i64 k ∧ Hid (IsBs wr b (entsK (headC seq l.length) (l.take k))) ∧ Hid (Below g w wr)) (fun i _ => l.length - (RowKit.intOf i).toNat)
    case atStart => exact ⟨0, Nat.zero_le _, rfl, S5, H5⟩
    case round =>
      clear S5 H5
      obtain ⟨k, hk, rfl, HS, HB⟩ := hrel
      by_cases hlt : k < l.length
      · obtain ⟨lb, off, rfl, hlb, e0, e1, e2, e3⟩ := (H.out.keep (w' := wr) (by rw [← HG.out]; exact HB.out)).get k hlt
        have HSN := Lib.hid (entsK_snoc (headC seq l.length) l k hlt)
        have hmx := HALL.out _ (List.getElem_mem hlt)
        have hsk : (entsK (headC seq l.length) (l.take k)).size ≤ 900 := by
          have h1 := entsK_le (l.take k) (headC seq l.length) (fun x hx => HALL.out x (List.mem_of_mem_take hx))
          have h2 := headC_le seq l.length
          rw [List.length_take] at h1
          omega
        have HSK := Lib.hid hsk
        have HLT := Lib.hid hlt
        clear hsk
        obtain ⟨S', hS'⟩ : ∃ S', entsK (headC seq l.length) (l.take (k + 1)) = S' := ⟨_, rfl⟩
        rw [hS'] at HSN
        have HS' := Lib.hid hS'
        clear hS'
        generalize entsK (headC seq l.length) (l.take k) = S at *
        generalize l[k] = x at *
        clear hlt
        have HEL := Lib.hid (entB_le hmx)
        obtain ⟨xk, xs, xn, xp⟩ := x
        simp only at e0 e1 e2 e3
        obtain ⟨pk, hpk⟩ : ∃ p, textB xk 1 = p := ⟨_, rfl⟩
        obtain ⟨pn, hpn⟩ : ∃ p, putB xn 2 = p := ⟨_, rfl⟩
        obtain ⟨pp, hpp⟩ : ∃ p, putB xp 2 = p := ⟨_, rfl⟩
        have HEB : Hid (pk ++ xs ++ pn ++ pp = entB ⟨xk, xs, xn, xp⟩) := by rw [← hpk, ← hpn, ← hpp]; rfl
        have y1 := textB_le xk 1
        have y2 := putB_size xn 2
        have y3 := putB_size xp 2
        rw [hpk] at y1
        rw [hpn] at y2
        rw [hpp] at y3
        have HPK := Lib.hid hpk
        have HPN := Lib.hid hpn
        have HPP := Lib.hid hpp
        obtain ⟨m1, m2, m3, _⟩ := hmx
        simp only at m1 m2 m3
        have hxk : xk.size ≤ 140737488351232 := by omega
        have q1 : ¬ 9223372036854775807 < pk.size + xs.size := by omega
        have q2 : (pk ++ xs).size = pk.size + xs.size := ByteArray.size_append
        have q3 : ¬ 9223372036854775807 < pk.size + xs.size + pn.size := by omega
        have q4 : (pk ++ xs ++ pn).size = pk.size + xs.size + pn.size := by rw [ByteArray.size_append, ByteArray.size_append]
        have q5 : ¬ 9223372036854775807 < pk.size + xs.size + pn.size + pp.size := by omega
        have HXK := Lib.hid hxk
        have hcl : g < wr.heap.size := Nat.lt_trans HGB.out HS.out.lt
        have HCL := Lib.hid hcl
        obtain ⟨c, hcE⟩ : ∃ c, c = wr.heap.size := ⟨_, rfl⟩
        have BC : Hid (Box (wr.alloc (.cells #[.string xk, .string xs, .int .i64 xn, .int .i64 xp] 170)) c 170 #[.string xk, .string xs, .int .i64 xn, .int .i64 xp]) := by rw [hcE]; exact Box.new wr _ _
        have SC : Hid (IsBs (wr.alloc (.cells #[.string xk, .string xs, .int .i64 xn, .int .i64 xp] 170)) b S) := HS.out.keep ((Below.refl wr.heap.size wr).alloc (Nat.le_refl _) _)
        have LC : Hid (Below g w (wr.alloc (.cells #[.string xk, .string xs, .int .i64 xn, .int .i64 xp] 170))) := HB.out.alloc (Nat.le_of_lt hcl) _
        have HCE := Lib.hid hcE
        clear hpk hpn hpp m1 m2 m3 y1 y2 y3 hxk hcl hcE HS HB hlb
        go_wp2_with fail
        rw [← HCE.out]
        clear e0 e1 e2 e3 HCE
        generalize World.alloc wr _ = w6 at *
        have k0 := BC.out.cell 0 _ rfl
        have k1 := BC.out.cell 1 _ rfl
        have k2 := BC.out.cell 2 _ rfl
        have k3 := BC.out.cell 3 _ rfl
        refine wp_region_sched (fun W => W.cell? ⟨c, 0, none⟩ = some (.string xk) ∧ W.cell? ⟨c, 1, none⟩ = some (.string xs) ∧ W.cell? ⟨c, 2, none⟩ = some (.int .i64 xn) ∧ W.cell? ⟨c, 3, none⟩ = some (.int .i64 xp)) 13 [(0, false), (1, false), (3, false), (4, false), (6, false), (7, false), (10, false), (11, false), (2, true), (5, false), (8, true), (9, false), (12, true)] (by kernel_rfl) (by kernel_rfl) ⟨k0, k1, k2, k3⟩ ?_
        simp only [List.drop_succ_cons, List.drop_zero]
        clear k0 k1 k2 k3
        iterate 8 (apply wpSch_step rfl; (intro W hS K hK; obtain ⟨r1, r2, r3, r4⟩ := hS; go_simp; exact hK _ rfl))
        refine wpSch_make rfl (fun K' hK => ?_)
        go_simp
        refine (ftext_any xk 1 _ HXK.out).mono ?_
        rintro e w7 ⟨rfl, hb⟩
        rw [HPK.out]
        have S7 := Lib.hid ((SC.out.keep (Below.refl _ _).drew).keep hb)
        have B7 := Lib.hid ((BC.out.keep (Below.refl _ _).drew BC.out.lt).keep hb BC.out.lt)
        have H7 := Lib.hid (LC.out.drew.trans (hb.mono (Nat.le_trans (Nat.le_of_lt HGB.out) (Nat.le_of_lt SC.out.lt))))
        refine hK _ _ _ (fun _ h => h) ⟨B7.out.cell 0 _ rfl, B7.out.cell 1 _ rfl, B7.out.cell 2 _ rfl, B7.out.cell 3 _ rfl⟩ ?_
        clear hK K' hb SC BC LC
        apply wpSch_step rfl
        · intro W hS K hK
          obtain ⟨r1, r2, r3, r4⟩ := hS
          go_simp
          exact hK _ rfl
        refine wpSch_make rfl (fun K' hK => ?_)
        go_simp
        refine (put_any xn 2 _).mono ?_
        rintro e w8 ⟨rfl, hb⟩
        rw [HPN.out]
        have S8 := Lib.hid (S7.out.keep hb)
        have B8 := Lib.hid (B7.out.keep hb B7.out.lt)
        have H8 := Lib.hid (H7.out.trans (hb.mono (Nat.le_trans (Nat.le_of_lt HGB.out) (Nat.le_of_lt S7.out.lt))))
        refine hK _ _ _ (fun _ h => h) ⟨B8.out.cell 0 _ rfl, B8.out.cell 1 _ rfl, B8.out.cell 2 _ rfl, B8.out.cell 3 _ rfl⟩ ?_
        clear hK K' hb S7 B7 H7
        apply wpSch_step rfl
        · intro W hS K hK
          obtain ⟨r1, r2, r3, r4⟩ := hS
          go_simp
          exact hK _ rfl
        refine wpSch_make rfl (fun K' hK => ?_)
        go_simp
        refine (put_any xp 2 _).mono ?_
        rintro e w9 ⟨rfl, hb⟩
        rw [HPP.out]
        have S9 := Lib.hid (S8.out.keep hb)
        have B9 := Lib.hid (B8.out.keep hb B8.out.lt)
        have H9 := Lib.hid (H8.out.trans (hb.mono (Nat.le_trans (Nat.le_of_lt HGB.out) (Nat.le_of_lt S8.out.lt))))
        refine hK _ _ _ (fun _ h => h) ⟨B9.out.cell 0 _ rfl, B9.out.cell 1 _ rfl, B9.out.cell 2 _ rfl, B9.out.cell 3 _ rfl⟩ ?_
        clear hK K' hb S8 B8 H8
        refine wpSch_nil ?_
        go_wp2_with fail
        rw [HEB.out]
        refine (wstr_bs b S (entB ⟨xk, xs, xn, xp⟩) _ S9.out (by have h1 := HEL.out; have h2 := HSK.out; omega)).mono ?_
        rintro e wA ⟨rfl, hs, hb⟩
        have SA : Hid (IsBs wA b S') := by rw [HSN.out]; exact hs
        have HA := Lib.hid (H9.out.trans (hb.mono (Nat.le_of_lt HGB.out)))
        clear hs hb S9 B9 H9 q1 q2 q3 q4 q5
        go_wp2
        go_roundw
        case rel => exact ⟨k + 1, HLT.out, by go_num, by rw [HS'.out]; exact SA, HA⟩
        case measure => have := HLT.out; simp [RowKit.intOf]; omega
      · obtain rfl : k = l.length := by omega
        have S6 : Hid (IsBs wr b (bodyC seq l)) := by
          have h1 := HS.out
          rw [List.take_length] at h1
          exact h1
        clear HS
        have hb9 := HBS.out
        generalize bodyC seq l = S at *
        go_wp2_with fail
        refine (bstr_bs b S _ S6.out).mono ?_
        rintro e w7 ⟨rfl, hb⟩
        have H7 : Hid (Below w.heap.size w w7) := by rw [← HG.out]; exact HB.out.trans (hb.mono (Nat.le_of_lt HGB.out))
        clear hb HB S6
        go_wp2_with fail
        refine (of_any S _ (Nat.le_trans HBS.out (by decide)) (HK.out.below H7.out HP.out)).mono ?_
        rintro e w8 ⟨rfl, hb⟩
        have H8 := Lib.hid (H7.out.trans (hb.mono H7.out.size))
        have hsz := sha_size' S
        generalize hsh : sha S = sh at *
        have q1 : ¬ 9223372036854775807 < S.size + sh.size := by omega
        clear hb hsh
        go_wp2
        go_ret2
        exact ⟨by rw [HR.out]; rfl, H8.out⟩
  · have HR : Hid (encC seq l = (⟨#[]⟩, 1)) := by show _ = _; unfold encC; rw [hc, if_neg (by decide)]
    have HC := Lib.hid hc
    clear hc
    go_enter Tryz.func145, Tryz.ntmps145
    go_wp2_with fail
    generalize World.alloc w _ = wx at *
    have k0 := BX.out.cell 0 _ rfl
    have k1 := BX.out.cell 1 _ rfl
    go_wp2_with fail
    refine (ccheck_any seq a cap l _ (H.out.keep HX.out)).mono ?_
    rintro e w1 ⟨rfl, hb⟩
    rw [HC.out]
    have H1 := Lib.hid (HX.out.trans (hb.mono HX.out.size))
    clear hb k0 k1 HX BX
    go_wp2
    go_ret2
    exact ⟨by rw [HR.out]; rfl, H1.out⟩
end Go.Proofs.YtphhnhldbajaoaaGreatDoor

namespace Go.Proofs.YtphhnhldbajaoaaGreatDoor
open Go Go.RowKit Go.ChangeShapes Go.WideShapes Go.ChangeAt

def grp (h : Nat) : Nat := h - h % 7
/-- A block's text. -/
def encT (q : Int) (l : List CgE) : ByteArray := if chkC q l = 0 then bodyC q l ++ sha (bodyC q l) else ⟨#[]⟩
theorem encT_eq (q : Int) (l : List CgE) : (encC q l).1 = encT q l := by
  unfold encC encT
  by_cases h : chkC q l = 0
  · rw [if_pos h, if_pos h]
  · rw [if_neg h, if_neg h]
/-- The text of the log of the group that the hand is in. -/
def logT (x : SecD) : ByteArray := encT ((x.num + 1 : Nat) : Int) (amongK x.e x.f (grp x.hand) (min (grp x.hand + 7) (roomN x.n)))
def logL (x : SecD) : Int × Int := (1, ((secN x.f (grp x.hand) - 1 : Nat) : Int))
def tellX (d : DevD) (x : SecD) : DevD := writeD d (logL x) (logT x)
def nextN (x : SecD) : SecD := { x with num := x.num + 1 }

theorem nextN_e (x : SecD) : (nextN x).e = x.e := rfl
theorem nextN_f (x : SecD) : (nextN x).f = x.f := rfl
theorem nextN_n (x : SecD) : (nextN x).n = x.n := rfl
theorem logT_def (x : SecD) : logT x = encT ((x.num + 1 : Nat) : Int) (amongK x.e x.f (grp x.hand) (min (grp x.hand + 7) (roomN x.n))) := rfl
theorem logT_eq {x : SecD} {tx : ByteArray} {fi : Nat} {q : Int} (h : tx = logT x) (hf : fi = grp x.hand) (hq : q = ((x.num + 1 : Nat) : Int)) : tx = (encC q (amongK (nextN x).e (nextN x).f fi (min (fi + 7) (roomN (nextN x).n)))).1 := by
  rw [h, hq, hf, nextN_e, nextN_f, nextN_n, logT_def, encT_eq]

theorem grp_facts {h fi : Nat} (hh : h ≤ 512) (hfi : fi = grp h) : Int.tmod (h : Int) 7 = (h : Int) % 7 ∧ wrap64 ((h : Int) % 7) = (h : Int) % 7 ∧ IntKind.i64.wrap ((h : Int) % 7) = (h : Int) % 7 ∧
    wrap64 ((h : Int) - (h : Int) % 7) = (fi : Int) ∧ IntKind.i64.wrap ((h : Int) - (h : Int) % 7) = (fi : Int) := by
  have e : (h : Int) - (h : Int) % 7 = (fi : Int) := by rw [hfi]; unfold grp; omega
  have b : 0 ≤ (h : Int) % 7 ∧ (h : Int) % 7 < 7 := by omega
  have b2 : fi ≤ 512 := by omega
  rw [e]
  have t := Int.tmod_eq_emod_of_nonneg (a := (h : Int)) (b := 7) (by omega)
  generalize (h : Int) % 7 = r at *
  exact ⟨t, IntWalk.wrap64_in _ (by omega), IntWalk.i64_in _ ⟨by omega, by omega⟩, IntWalk.wrap64_in _ (by omega), IntWalk.i64_in _ ⟨by omega, by omega⟩⟩
theorem plus7_facts {f : Nat} (hh : f ≤ 512) : wrap64 ((f : Int) + 7) = ((f + 7 : Nat) : Int) ∧ IntKind.i64.wrap ((f : Int) + 7) = ((f + 7 : Nat) : Int) :=
  ⟨by rw [IntWalk.wrap64_in _ (by omega)]; rfl, by rw [IntWalk.i64_in _ ⟨by omega, by omega⟩]; rfl⟩
theorem plus1_fact {q : Nat} (hh : q ≤ 1100000000000) : wrap64 ((q : Int) + 1) = ((q + 1 : Nat) : Int) := by
  rw [IntWalk.wrap64_in _ (by omega)]; rfl

section
variable {B : Nat} {P : List Nat → World → Prop} (hP : Fixed P) {b s : Nat} {d : DevD} {x : SecD} {w : World} (h : One B (Both P (ScF s b x)) b d w) (hx : x.f ≤ 512) (hn : x.n ≤ 512)
include hP h hx hn

set_option maxRecDepth 100000 in
set_option maxHeartbeats 2000000 in
theorem writelog_any (hK : Kt w) (hB : 0 < B) (hh : x.hand ≤ 512) (hq : x.num ≤ 1100000000000) (hw : d.waits.length ≤ 90000) :
    Calls Tryz.prog 125 #[.pointer (some ⟨s, 0, none⟩)] w fun e w' => e = .returned (.tuple #[]) ∧ One B (Both P (ScF s b (nextN x))) b (tellX d x) w' ∧ Below B w w' := by
  obtain ⟨m, hs, hBs, hBm, hto⟩ := h.secE hP
  have HBW : Hid (B ≤ w.heap.size) := h.1
  have HS := Lib.hid hs
  have HX := Lib.hid hx
  have HN := Lib.hid hn
  have HK := Lib.hid hK
  have HBP := Lib.hid hB
  have HP := Lib.hid hP
  have HTO := Lib.hid hto
  have HW := Lib.hid hw
  have HH := Lib.hid hh
  obtain ⟨fi, hfi⟩ : ∃ fi, fi = grp x.hand := ⟨_, rfl⟩
  have HF : Hid (fi = grp x.hand ∧ fi ≤ 512) := ⟨hfi, by rw [hfi]; unfold grp; omega⟩
  obtain ⟨k1, w1, i1, w2, i2⟩ := grp_facts hh hfi
  obtain ⟨w4, i4⟩ := plus7_facts HF.out.2
  have w3 := plus1_fact hq
  obtain ⟨q, hqq⟩ : ∃ q : Int, q = ((x.num + 1 : Nat) : Int) := ⟨_, rfl⟩
  rw [← hqq] at w3
  have HQ := Lib.hid hqq
  clear hqq
  have c5 : w.cell? ⟨s, 5, none⟩ = some (.int .i64 x.hand) := hs.box.cell 5 _ rfl
  clear h hP hs hx hn hK hto hB hw hh hq hfi
  go_enter Tryz.func125, Tryz.ntmps125
  go_wp2_with fail
  refine wp_region_tree (fun W => W.cell? ⟨s, 5, none⟩ = some (.int .i64 x.hand)) 9 (.quiet 0 (.quiet 1 (.quiet 2 (.quiet 3 (.quiet 4 (.quiet 5 (.quiet 6 (.quiet 7 (.quiet 8 .nil))))))))) (by kernel_rfl) (by kernel_rfl) c5 ?_
  simp only [List.drop_succ_cons, List.drop_zero]
  iterate 9 (apply wpTr_step rfl; (intro W hS K hK; go_simp; exact hK _ rfl))
  refine wpTr_nil ?_
  have HWD : Hid (Below w.heap.size w w.drew) := (Below.refl _ w).drew
  have HSD := Lib.hid (HS.out.keep HWD.out)
  have e4 : w.drew.cell? ⟨s, 4, none⟩ = some (.int .i64 x.num) := HSD.out.box.cell 4 _ rfl
  have f4 : w.drew.frozen? ⟨s, 4, none⟩ = false := HSD.out.box.free 4
  clear c5
  go_wp2_with fail
  clear k1 w1 i1 w2 i2
  obtain ⟨W2, hW2⟩ : ∃ W2, W2 = (w.setCell ⟨s, 4, none⟩ (.int .i64 q)).drew := ⟨_, rfl⟩
  have hbx : Box (w.setCell ⟨s, 4, none⟩ (.int .i64 q)).drew s 158 _ := HS.out.box.set 4 (.int .i64 q)
  have hcs : Chg [s, m] w W2 := by rw [hW2]; exact ((Chg.refl _ w).set s 4 _ (.inl (by simp))).trans (Chg.of (Below.refl _ _).drew (Nat.le_refl _))
  have hm2 : W2.heap[m]? = w.heap[m]? := by rw [hW2]; exact heap_setCell_other w ⟨s, 4, none⟩ m _ (fun e => HS.out.ne e.symm)
  rw [← hW2, HQ.out] at hbx
  obtain ⟨hone, hbel⟩ := HTO.out W2 (nextN x) hcs ⟨hbx, HS.out.map.of hm2, HS.out.ne⟩
  rw [← hW2]
  have HS2 : Hid (SecAt W2 s b m (nextN x)) := ⟨hbx, HS.out.map.of hm2, HS.out.ne⟩
  have HO2 := Lib.hid hone
  have HB2 := Lib.hid hbel
  clear hbx hcs hm2 hone hbel hW2 HSD HTO HS e4 f4 w3
  have r4 : W2.cell? ⟨s, 4, none⟩ = some (.int .i64 q) := by rw [HQ.out]; exact HS2.out.box.cell 4 _ rfl
  have HS2D := Lib.hid (HS2.out.keep (Below.refl _ W2).drew)
  refine wp_region_tree (fun W => W.cell? ⟨s, 4, none⟩ = some (.int .i64 q)) 15 (.quiet 0 (.quiet 1 (.quiet 2 (.quiet 3 (.quiet 4 (.quiet 5 (.quiet 6 (.quiet 7 (.make 8 (.quiet 9 (.make 10 (.quiet 11 (.quiet 12 (.quiet 13 (.quiet 14 .nil))))))))))))))) (by kernel_rfl) (by kernel_rfl) r4 ?_
  simp only [List.drop_succ_cons, List.drop_zero]
  iterate 8 (apply wpTr_step rfl; (intro W hS K hK; go_simp; exact hK _ rfl))
  refine wpTr_make rfl (fun K' hK => ?_)
  go_simp
  have HAM := Lib.hid (among_any s b m (nextN x) _ HS2D.out HX.out HN.out fi (fi + 7) (by have := HF.out.2; omega) (by have := HF.out.2; omega))
  rw [show ((fi + 7 : Nat) : Int) = (fi : Int) + 7 from rfl] at HAM
  refine HAM.out.mono ?_
  rintro e w3 ⟨v, rfl, hc, hb⟩
  have hb3 : Below W2.heap.size W2 w3 := (Below.refl _ W2).drew.trans hb
  have HC3 := Lib.hid hc
  have HS3 := Lib.hid (HS2.out.keep hb3)
  have HO3 := Lib.hid (HO2.out.keep (fixed_both HP.out (fixed_sc s b (nextN x))) hb3)
  have HB3 := Lib.hid (HB2.out.trans (hb3.mono (Nat.le_trans HBW.out HB2.out.size)))
  have HK3 := Lib.hid (HK.out.below HB3.out HBP.out)
  have r4' : w3.cell? ⟨s, 4, none⟩ = some (.int .i64 q) := by rw [HQ.out]; exact HS3.out.box.cell 4 _ rfl
  obtain ⟨va, vc, rfl, hsl⟩ := HC3.out.view
  have HSL := Lib.hid hsl
  refine hK _ _ _ (fun _ h => h) r4' ?_
  clear hsl r4' hK K' hb hb3 hc HS2 HO2 HB2 HS2D r4
  apply wpTr_step rfl
  · intro W hS K hK
    go_simp
    exact hK _ rfl
  have HEN := Lib.hid (cencode_any q va vc _ w3 HSL.out HK3.out)
  obtain ⟨tx, htx⟩ : ∃ tx, tx = logT x := ⟨_, rfl⟩
  have HTX := Lib.hid (logT_eq htx HF.out.1 HQ.out)
  rw [← HTX.out] at HEN
  have HTL := Lib.hid htx
  obtain ⟨er, her⟩ : ∃ er, er = (encC q (amongK (nextN x).e (nextN x).f fi (min (fi + 7) (roomN (nextN x).n)))).2 := ⟨_, rfl⟩
  rw [← her] at HEN
  clear her htx HSL
  refine wpTr_make rfl (fun K' hK => ?_)
  go_simp
  refine HEN.out.mono ?_
  rintro e w4 ⟨rfl, hb⟩
  have HS4 := Lib.hid (HS3.out.keep hb)
  have HO4 := Lib.hid (HO3.out.keep (fixed_both HP.out (fixed_sc s b (nextN x))) hb)
  have HB4 := Lib.hid (HB3.out.trans (hb.mono HO3.out.1))
  have r4' : w4.cell? ⟨s, 4, none⟩ = some (.int .i64 q) := by rw [HQ.out]; exact HS4.out.box.cell 4 _ rfl
  refine hK _ _ _ (fun _ h => h) r4' ?_
  clear r4'
  clear hK K' hb HS3 HO3 HB3 HK3 HC3 HEN
  iterate 4 (apply wpTr_step rfl; (intro W hS K hK; go_simp; exact hK _ rfl))
  refine wpTr_nil ?_
  have d0 : w4.cell? ⟨s, 0, none⟩ = some (.pointer (some ⟨b, 0, none⟩)) := HS4.out.box.cell 0 _ rfl
  have HS4D := Lib.hid (HS4.out.keep (Below.refl _ w4).drew)
  go_wp2_with fail
  refine wp_region_tree (fun W => W.cell? ⟨s, 0, none⟩ = some (.pointer (some ⟨b, 0, none⟩))) 8 (.quiet 0 (.quiet 1 (.quiet 2 (.quiet 3 (.quiet 4 (.quiet 5 (.quiet 7 (.make 6 .nil)))))))) (by kernel_rfl) (by kernel_rfl) d0 ?_
  simp only [List.drop_succ_cons, List.drop_zero]
  iterate 7 (apply wpTr_step rfl; (intro W hS K hK; go_simp; exact hK _ rfl))
  refine wpTr_make rfl (fun K' hK => ?_)
  go_simp
  refine (log_any s b m (nextN x) _ fi HS4D.out.box HX.out (by have := HF.out.2; omega)).mono ?_
  rintro e w5 ⟨rfl, hb⟩
  have hb5 : Below w4.heap.size w4 w5 := (Below.refl _ w4).drew.trans hb
  have HS5 := Lib.hid (HS4.out.keep hb5)
  have HO5 := Lib.hid (HO4.out.keep (fixed_both HP.out (fixed_sc s b (nextN x))) hb5)
  have HB5 := Lib.hid (HB4.out.trans (hb5.mono HO4.out.1))
  refine hK _ _ _ (fun _ h => h) (HS5.out.box.cell 0 _ rfl) ?_
  clear hK K' hb hb5 HS4 HO4 HB4 HS4D d0
  refine wpTr_nil ?_
  have HLL : Hid (locV (1, ((secN (nextN x).f fi - 1 : Nat) : Int)) = locV (logL x)) := by show _ = _; rw [HF.out.1]; rfl
  rw [HLL.out]
  have HWR := Lib.hid (one_write (fixed_both HP.out (fixed_sc s b (nextN x))) HO5.out (logL x) tx (by have := HW.out; omega))
  unfold locV
  unfold locV at HWR
  go_wp2_with fail
  refine HWR.out.mono ?_
  rintro e w6 ⟨rfl, ho6, hb6⟩
  have HO6 := Lib.hid ho6
  have HB6 := Lib.hid (HB5.out.trans hb6)
  clear ho6 hb6 HO5 HB5 HS5 HWR
  go_wp2
  go_end0
  exact ⟨rfl, by unfold tellX; rw [← HTL.out]; exact HO6.out, HB6.out⟩
end
end Go.Proofs.YtphhnhldbajaoaaGreatDoor
