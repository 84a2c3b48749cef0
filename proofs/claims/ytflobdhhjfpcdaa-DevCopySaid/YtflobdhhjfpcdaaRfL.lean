/-
  Contracts of DevScripts and DevCopy: a call on both.
-/
import Derived.Test.YtflobdhhjfpcdaaRfK
import Derived.Test.YtflobdhhjfpcdaaDevOneC
import Derived.Test.YtflobdhhjfpcdaaOpenDev
namespace Go.Proofs.Ytflobdhhjfpcdaa
open Go.RowKit Go.ChangeShapes Go.WideShapes Go.ChangeAt

/-- What a call makes of devices. -/
def stepR (d : DevD) (x : OpD) : DevD :=
  if x.act = 0 then writeD d x.l x.s else if x.act = 1 then d else if x.act = 2 then endD d d.waits else if x.act = 3 then crashD d x.keep else if x.act = 4 then spoilD d x.l x.s else if x.act = 5 then loseD d x.l.1 else d
/-- Whether both tell the same. -/
def doesB (d r : DevD) (x : OpD) : Bool :=
  if x.act = 0 then chkD d x.l x.s.size == chkD r x.l x.s.size else if x.act = 1 then ((tellD d x.l).toList == (rtell r x.l).toList) && (chkD d x.l 0 == chkD r x.l 0) else if x.act = 2 then true else if x.act = 3 then true else if x.act = 4 then chkD d x.l x.s.size == chkD r x.l x.s.size else true
theorem sl_under {w w' : World} {ka : Option Addr} {keep : List Bool} (h : Sl w Value.bool ka keep) (hb : Below w.heap.size w w') : Sl w' Value.bool ka keep := fun hne => by
  obtain ⟨b, off, e, hlt, hc⟩ := h hne
  exact ⟨b, off, e, Nat.lt_of_lt_of_le hlt hb.size, fun i x hx => (hb.cell (p := ⟨b, off + i, none⟩) hlt).trans (hc i x hx)⟩
theorem write_lenR (d : DevD) (l : Int × Int) (s : ByteArray) : (writeD d l s).waits.length ≤ d.waits.length + 1 := writeD_len d l s

section
variable {P : List Nat → World → Prop} (hP : Fixed P) {wB : World} {rb b : Nat} {r d : DevD} {w : World} (h : One wB.heap.size (Both P (RefF rb r)) b d w) (hb : Below wB.heap.size wB w) (hdl : d.waits.length ≤ 10000) (hrl : r.waits.length ≤ 10000)
include hP h hb hdl hrl

set_option maxRecDepth 100000 in
set_option maxHeartbeats 4000000 in
theorem does_0 (l1 l2 : Int) (s : ByteArray) (ka : Option Addr) (kc : Nat) (keep : List Bool) (hk : Sl wB Value.bool ka keep) :
    Calls Try.prog 8 #[.pointer (some ⟨b, 0, none⟩), .pointer (some ⟨rb, 0, none⟩), .agg #[.int .i64 0, .int .i64 l1, .int .i64 l2, .string s, .slice ka keep.length kc]] w fun e w' => e = .returned (.bool (chkD d (l1, l2) s.size == chkD r (l1, l2) s.size)) ∧ One wB.heap.size (Both P (RefF rb (writeD r (l1, l2) s))) b (writeD d (l1, l2) s) w' ∧ Below wB.heap.size w w' := by
  have HB := Lib.hid hb
  have HDL := Lib.hid hdl
  have HRL := Lib.hid hrl
  have HK := Lib.hid (And.intro hk trivial)
  have HP1 := Lib.hid (fixed_both hP (fixed_box w.heap.size 32 #[.int .i64 0, .int .i64 l1, .int .i64 l2, .string s, .slice ka keep.length kc]))
  have H0 := Lib.hid (h.addBox (fixed_both hP (fixed_ref rb r)) 32 #[.int .i64 0, .int .i64 l1, .int .i64 l2, .string s, .slice ka keep.length kc]).exch
  have L0 : Hid (Below wB.heap.size w (w.alloc (.cells #[.int .i64 0, .int .i64 l1, .int .i64 l2, .string s, .slice ka keep.length kc] 32))) := (Below.refl _ _).alloc h.1 _
  clear h hb hdl hrl hk
  go_enter Try.func8, Try.ntmps8
  have c0 := H0.out.exch.box.cell 0 _ rfl
  have c1 := H0.out.exch.box.cell 1 _ rfl
  have c2 := H0.out.exch.box.cell 2 _ rfl
  have c3 := H0.out.exch.box.cell 3 _ rfl
  have c4 := H0.out.exch.box.cell 4 _ rfl
  go_wp2_with fail
  generalize World.alloc w _ = w1 at *
  generalize w.heap.size = g at *
  have g1 : One wB.heap.size _ b d w1.drew := H0.out.drew (fixed_both HP1.out (fixed_ref rb r))
  have H1 := Lib.hid g1
  have L1 := Lib.hid L0.out.drew
  clear g1
  refine wp_region_tree (fun W => W.cell? ⟨g, 1, none⟩ = some (.int .i64 l1) ∧ W.cell? ⟨g, 2, none⟩ = some (.int .i64 l2) ∧ W.cell? ⟨g, 3, none⟩ = some (.string s)) 11 (.quiet 0 (.quiet 1 (.quiet 2 (.quiet 3 (.quiet 4 (.quiet 6 (.quiet 7 (.quiet 8 (.quiet 9 (.quiet 10 (.make 5 .nil))))))))))) (by kernel_rfl) (by kernel_rfl) ⟨c1, c2, c3⟩ ?_
  simp only [List.drop_succ_cons, List.drop_zero]
  clear c0 c1 c2 c3 c4
  iterate 10 (apply wpTr_step rfl; (intro W hS K hK; obtain ⟨z0, z1, z2⟩ := hS; go_simp; exact hK _ rfl))
  refine wpTr_make rfl (fun K' hK => ?_)
  go_simp
  refine (one_write (fixed_both HP1.out (fixed_ref rb r)) H1.out (l1, l2) s (Nat.le_trans HDL.out (by decide))).mono ?_
  rintro e w2 ⟨rfl, ho, hb⟩
  have H2 := Lib.hid ho
  have L2 := Lib.hid (L1.out.trans hb)
  have HBB : Hid (Below wB.heap.size wB w2) := HB.out.trans L2.out
  clear ho hb H1 L1 H0 L0
  refine hK _ _ _ (fun _ h => h) ⟨H2.out.exch.box.cell 1 _ rfl, H2.out.exch.box.cell 2 _ rfl, H2.out.exch.box.cell 3 _ rfl⟩ ?_
  clear hK K'
  refine wpTr_nil ?_
  go_wp2_with fail
  refine (or_write HP1.out H2.out (l1, l2) s (Nat.le_trans HRL.out (by decide))).mono ?_
  rintro e w3 ⟨rfl, ho, hb⟩
  have H3 := Lib.hid ho
  have L3 := Lib.hid (L2.out.trans hb)
  clear ho hb H2 L2 HBB
  go_wp2
  go_ret
  exact ⟨rfl, H3.out.exch.drop, L3.out⟩

set_option maxRecDepth 100000 in
set_option maxHeartbeats 4000000 in
theorem does_4 (l1 l2 : Int) (s : ByteArray) (ka : Option Addr) (kc : Nat) (keep : List Bool) (hk : Sl wB Value.bool ka keep) :
    Calls Try.prog 8 #[.pointer (some ⟨b, 0, none⟩), .pointer (some ⟨rb, 0, none⟩), .agg #[.int .i64 4, .int .i64 l1, .int .i64 l2, .string s, .slice ka keep.length kc]] w fun e w' => e = .returned (.bool (chkD d (l1, l2) s.size == chkD r (l1, l2) s.size)) ∧ One wB.heap.size (Both P (RefF rb (spoilD r (l1, l2) s))) b (spoilD d (l1, l2) s) w' ∧ Below wB.heap.size w w' := by
  have HB := Lib.hid hb
  have HDL := Lib.hid hdl
  have HRL := Lib.hid hrl
  have HK := Lib.hid (And.intro hk trivial)
  have HP1 := Lib.hid (fixed_both hP (fixed_box w.heap.size 32 #[.int .i64 4, .int .i64 l1, .int .i64 l2, .string s, .slice ka keep.length kc]))
  have H0 := Lib.hid (h.addBox (fixed_both hP (fixed_ref rb r)) 32 #[.int .i64 4, .int .i64 l1, .int .i64 l2, .string s, .slice ka keep.length kc]).exch
  have L0 : Hid (Below wB.heap.size w (w.alloc (.cells #[.int .i64 4, .int .i64 l1, .int .i64 l2, .string s, .slice ka keep.length kc] 32))) := (Below.refl _ _).alloc h.1 _
  clear h hb hdl hrl hk
  go_enter Try.func8, Try.ntmps8
  have c0 := H0.out.exch.box.cell 0 _ rfl
  have c1 := H0.out.exch.box.cell 1 _ rfl
  have c2 := H0.out.exch.box.cell 2 _ rfl
  have c3 := H0.out.exch.box.cell 3 _ rfl
  have c4 := H0.out.exch.box.cell 4 _ rfl
  go_wp2_with fail
  generalize World.alloc w _ = w1 at *
  generalize w.heap.size = g at *
  have g1 : One wB.heap.size _ b d w1.drew := H0.out.drew (fixed_both HP1.out (fixed_ref rb r))
  have H1 := Lib.hid g1
  have L1 := Lib.hid L0.out.drew
  clear g1
  refine wp_region_tree (fun W => W.cell? ⟨g, 1, none⟩ = some (.int .i64 l1) ∧ W.cell? ⟨g, 2, none⟩ = some (.int .i64 l2) ∧ W.cell? ⟨g, 3, none⟩ = some (.string s)) 11 (.quiet 0 (.quiet 1 (.quiet 2 (.quiet 3 (.quiet 4 (.quiet 6 (.quiet 7 (.quiet 8 (.quiet 9 (.quiet 10 (.make 5 .nil))))))))))) (by kernel_rfl) (by kernel_rfl) ⟨c1, c2, c3⟩ ?_
  simp only [List.drop_succ_cons, List.drop_zero]
  clear c0 c1 c2 c3 c4
  iterate 10 (apply wpTr_step rfl; (intro W hS K hK; obtain ⟨z0, z1, z2⟩ := hS; go_simp; exact hK _ rfl))
  refine wpTr_make rfl (fun K' hK => ?_)
  go_simp
  refine (one_spoil (fixed_both HP1.out (fixed_ref rb r)) H1.out (l1, l2) s (Nat.le_trans HDL.out (by decide))).mono ?_
  rintro e w2 ⟨rfl, ho, hb⟩
  have H2 := Lib.hid ho
  have L2 := Lib.hid (L1.out.trans hb)
  have HBB : Hid (Below wB.heap.size wB w2) := HB.out.trans L2.out
  clear ho hb H1 L1 H0 L0
  refine hK _ _ _ (fun _ h => h) ⟨H2.out.exch.box.cell 1 _ rfl, H2.out.exch.box.cell 2 _ rfl, H2.out.exch.box.cell 3 _ rfl⟩ ?_
  clear hK K'
  refine wpTr_nil ?_
  go_wp2_with fail
  refine (or_spoil HP1.out H2.out (l1, l2) s (Nat.le_trans HRL.out (by decide))).mono ?_
  rintro e w3 ⟨rfl, ho, hb⟩
  have H3 := Lib.hid ho
  have L3 := Lib.hid (L2.out.trans hb)
  clear ho hb H2 L2 HBB
  go_wp2
  go_ret
  exact ⟨rfl, H3.out.exch.drop, L3.out⟩

set_option maxRecDepth 100000 in
set_option maxHeartbeats 4000000 in
theorem does_3 (l1 l2 : Int) (s : ByteArray) (ka : Option Addr) (kc : Nat) (keep : List Bool) (hk : Sl wB Value.bool ka keep) :
    Calls Try.prog 8 #[.pointer (some ⟨b, 0, none⟩), .pointer (some ⟨rb, 0, none⟩), .agg #[.int .i64 3, .int .i64 l1, .int .i64 l2, .string s, .slice ka keep.length kc]] w fun e w' => e = .returned (.bool true) ∧ One wB.heap.size (Both P (RefF rb (crashD r keep))) b (crashD d keep) w' ∧ Below wB.heap.size w w' := by
  have HB := Lib.hid hb
  have HDL := Lib.hid hdl
  have HRL := Lib.hid hrl
  have HK := Lib.hid (And.intro hk trivial)
  have HP1 := Lib.hid (fixed_both hP (fixed_box w.heap.size 32 #[.int .i64 3, .int .i64 l1, .int .i64 l2, .string s, .slice ka keep.length kc]))
  have H0 := Lib.hid (h.addBox (fixed_both hP (fixed_ref rb r)) 32 #[.int .i64 3, .int .i64 l1, .int .i64 l2, .string s, .slice ka keep.length kc]).exch
  have L0 : Hid (Below wB.heap.size w (w.alloc (.cells #[.int .i64 3, .int .i64 l1, .int .i64 l2, .string s, .slice ka keep.length kc] 32))) := (Below.refl _ _).alloc h.1 _
  clear h hb hdl hrl hk
  go_enter Try.func8, Try.ntmps8
  have c0 := H0.out.exch.box.cell 0 _ rfl
  have c1 := H0.out.exch.box.cell 1 _ rfl
  have c2 := H0.out.exch.box.cell 2 _ rfl
  have c3 := H0.out.exch.box.cell 3 _ rfl
  have c4 := H0.out.exch.box.cell 4 _ rfl
  go_wp2_with fail
  generalize World.alloc w _ = w1 at *
  generalize w.heap.size = g at *
  have g1 : One wB.heap.size _ b d w1.drew := H0.out.drew (fixed_both HP1.out (fixed_ref rb r))
  have H1 := Lib.hid g1
  have L1 := Lib.hid L0.out.drew
  clear g1
  refine wp_region_tree (fun W => W.cell? ⟨g, 4, none⟩ = some (.slice ka keep.length kc)) 7 (.quiet 0 (.quiet 1 (.quiet 2 (.quiet 4 (.quiet 5 (.quiet 6 (.make 3 .nil))))))) (by kernel_rfl) (by kernel_rfl) c4 ?_
  simp only [List.drop_succ_cons, List.drop_zero]
  clear c0 c1 c2 c3 c4
  iterate 6 (apply wpTr_step rfl; (intro W hS K hK; have z0 := hS; go_simp; exact hK _ rfl))
  refine wpTr_make rfl (fun K' hK => ?_)
  go_simp
  refine (one_crashU (fixed_both HP1.out (fixed_ref rb r)) H1.out ka kc keep (sl_under HK.out.1 (HB.out.trans L1.out)) (Nat.le_trans HDL.out (by decide))).mono ?_
  rintro e w2 ⟨rfl, ho, hb⟩
  have H2 := Lib.hid ho
  have L2 := Lib.hid (L1.out.trans hb)
  have HBB : Hid (Below wB.heap.size wB w2) := HB.out.trans L2.out
  clear ho hb H1 L1 H0 L0
  refine hK _ _ _ (fun _ h => h) (H2.out.exch.box.cell 4 _ rfl) ?_
  clear hK K'
  refine wpTr_nil ?_
  go_wp2_with fail
  refine (or_crash HP1.out H2.out ka kc keep (sl_under HK.out.1 HBB.out) (fun hne g off e => by obtain ⟨b2, off2, e2, hlt, _⟩ := HK.out.1 hne; rw [e2] at e; injection e with e; injection e with e; omega) (Nat.le_trans HRL.out (by decide))).mono ?_
  rintro e w3 ⟨rfl, ho, hb⟩
  have H3 := Lib.hid ho
  have L3 := Lib.hid (L2.out.trans hb)
  clear ho hb H2 L2 HBB
  go_wp2
  go_ret
  exact ⟨rfl, H3.out.exch.drop, L3.out⟩

set_option maxRecDepth 100000 in
set_option maxHeartbeats 4000000 in
theorem does_5 (l1 l2 : Int) (s : ByteArray) (ka : Option Addr) (kc : Nat) (keep : List Bool) (hk : Sl wB Value.bool ka keep) :
    Calls Try.prog 8 #[.pointer (some ⟨b, 0, none⟩), .pointer (some ⟨rb, 0, none⟩), .agg #[.int .i64 5, .int .i64 l1, .int .i64 l2, .string s, .slice ka keep.length kc]] w fun e w' => e = .returned (.bool true) ∧ One wB.heap.size (Both P (RefF rb (loseD r l1))) b (loseD d l1) w' ∧ Below wB.heap.size w w' := by
  have HB := Lib.hid hb
  have HDL := Lib.hid hdl
  have HRL := Lib.hid hrl
  have HK := Lib.hid (And.intro hk trivial)
  have HP1 := Lib.hid (fixed_both hP (fixed_box w.heap.size 32 #[.int .i64 5, .int .i64 l1, .int .i64 l2, .string s, .slice ka keep.length kc]))
  have H0 := Lib.hid (h.addBox (fixed_both hP (fixed_ref rb r)) 32 #[.int .i64 5, .int .i64 l1, .int .i64 l2, .string s, .slice ka keep.length kc]).exch
  have L0 : Hid (Below wB.heap.size w (w.alloc (.cells #[.int .i64 5, .int .i64 l1, .int .i64 l2, .string s, .slice ka keep.length kc] 32))) := (Below.refl _ _).alloc h.1 _
  clear h hb hdl hrl hk
  go_enter Try.func8, Try.ntmps8
  have c0 := H0.out.exch.box.cell 0 _ rfl
  have c1 := H0.out.exch.box.cell 1 _ rfl
  have c2 := H0.out.exch.box.cell 2 _ rfl
  have c3 := H0.out.exch.box.cell 3 _ rfl
  have c4 := H0.out.exch.box.cell 4 _ rfl
  go_wp2_with fail
  generalize World.alloc w _ = w1 at *
  generalize w.heap.size = g at *
  have g1 : One wB.heap.size _ b d w1.drew := H0.out.drew (fixed_both HP1.out (fixed_ref rb r))
  have H1 := Lib.hid g1
  have L1 := Lib.hid L0.out.drew
  clear g1
  refine wp_region_tree (fun W => W.cell? ⟨g, 1, none⟩ = some (.int .i64 l1)) 9 (.quiet 0 (.quiet 1 (.quiet 2 (.quiet 3 (.quiet 5 (.quiet 6 (.quiet 7 (.quiet 8 (.make 4 .nil))))))))) (by kernel_rfl) (by kernel_rfl) c1 ?_
  simp only [List.drop_succ_cons, List.drop_zero]
  clear c0 c1 c2 c3 c4
  iterate 8 (apply wpTr_step rfl; (intro W hS K hK; have z0 := hS; go_simp; exact hK _ rfl))
  refine wpTr_make rfl (fun K' hK => ?_)
  go_simp
  refine (one_lose (fixed_both HP1.out (fixed_ref rb r)) H1.out l1 (Nat.le_trans HDL.out (by decide))).mono ?_
  rintro e w2 ⟨rfl, ho, hb⟩
  have H2 := Lib.hid ho
  have L2 := Lib.hid (L1.out.trans hb)
  have HBB : Hid (Below wB.heap.size wB w2) := HB.out.trans L2.out
  clear ho hb H1 L1 H0 L0
  refine hK _ _ _ (fun _ h => h) (H2.out.exch.box.cell 1 _ rfl) ?_
  clear hK K'
  refine wpTr_nil ?_
  go_wp2_with fail
  refine (or_lose HP1.out H2.out l1 (Nat.le_trans HRL.out (by decide))).mono ?_
  rintro e w3 ⟨rfl, ho, hb⟩
  have H3 := Lib.hid ho
  have L3 := Lib.hid (L2.out.trans hb)
  clear ho hb H2 L2 HBB
  generalize loseE l1 = le at *
  go_wp2
  go_ret
  exact ⟨rfl, H3.out.exch.drop, L3.out⟩

set_option maxRecDepth 100000 in
set_option maxHeartbeats 4000000 in
theorem does_2 (l1 l2 : Int) (s : ByteArray) (ka : Option Addr) (kc : Nat) (keep : List Bool) (hk : Sl wB Value.bool ka keep) :
    Calls Try.prog 8 #[.pointer (some ⟨b, 0, none⟩), .pointer (some ⟨rb, 0, none⟩), .agg #[.int .i64 2, .int .i64 l1, .int .i64 l2, .string s, .slice ka keep.length kc]] w fun e w' => e = .returned (.bool true) ∧ One wB.heap.size (Both P (RefF rb (endD r r.waits))) b (endD d d.waits) w' ∧ Below wB.heap.size w w' := by
  have HB := Lib.hid hb
  have HDL := Lib.hid hdl
  have HRL := Lib.hid hrl
  have HK := Lib.hid (And.intro hk trivial)
  have HP1 := Lib.hid (fixed_both hP (fixed_box w.heap.size 32 #[.int .i64 2, .int .i64 l1, .int .i64 l2, .string s, .slice ka keep.length kc]))
  have H0 := Lib.hid (h.addBox (fixed_both hP (fixed_ref rb r)) 32 #[.int .i64 2, .int .i64 l1, .int .i64 l2, .string s, .slice ka keep.length kc]).exch
  have L0 : Hid (Below wB.heap.size w (w.alloc (.cells #[.int .i64 2, .int .i64 l1, .int .i64 l2, .string s, .slice ka keep.length kc] 32))) := (Below.refl _ _).alloc h.1 _
  clear h hb hdl hrl hk
  go_enter Try.func8, Try.ntmps8
  have c0 := H0.out.exch.box.cell 0 _ rfl
  have c1 := H0.out.exch.box.cell 1 _ rfl
  have c2 := H0.out.exch.box.cell 2 _ rfl
  have c3 := H0.out.exch.box.cell 3 _ rfl
  have c4 := H0.out.exch.box.cell 4 _ rfl
  go_wp2_with fail
  generalize World.alloc w _ = w1 at *
  generalize w.heap.size = g at *
  clear c0 c1 c2 c3 c4
  refine (one_flush (fixed_both HP1.out (fixed_ref rb r)) H0.out (Nat.le_trans HDL.out (by decide))).mono ?_
  rintro e w2 ⟨rfl, ho, hb⟩
  have H2 := Lib.hid ho
  have L2 := Lib.hid (L0.out.trans hb)
  clear ho hb H0 L0
  go_wp2_with fail
  refine (or_flush HP1.out H2.out (Nat.le_trans HRL.out (by decide))).mono ?_
  rintro e w3 ⟨rfl, ho, hb⟩
  have H3 := Lib.hid ho
  have L3 := Lib.hid (L2.out.trans hb)
  clear ho hb H2 L2
  go_wp2
  go_ret
  exact ⟨rfl, H3.out.exch.drop, L3.out⟩

set_option maxRecDepth 100000 in
set_option maxHeartbeats 4000000 in
theorem does_1 (l1 l2 : Int) (s : ByteArray) (ka : Option Addr) (kc : Nat) (keep : List Bool) (hk : Sl wB Value.bool ka keep) :
    Calls Try.prog 8 #[.pointer (some ⟨b, 0, none⟩), .pointer (some ⟨rb, 0, none⟩), .agg #[.int .i64 1, .int .i64 l1, .int .i64 l2, .string s, .slice ka keep.length kc]] w fun e w' => e = .returned (.bool (((tellD d (l1, l2)).toList == (rtell r (l1, l2)).toList) && (chkD d (l1, l2) 0 == chkD r (l1, l2) 0))) ∧ One wB.heap.size (Both P (RefF rb r)) b d w' ∧ Below wB.heap.size w w' := by
  have HB := Lib.hid hb
  have HDL := Lib.hid hdl
  have HRL := Lib.hid hrl
  have HK := Lib.hid (And.intro hk trivial)
  have HP1 := Lib.hid (fixed_both hP (fixed_box w.heap.size 32 #[.int .i64 1, .int .i64 l1, .int .i64 l2, .string s, .slice ka keep.length kc]))
  have H0 := Lib.hid (h.addBox (fixed_both hP (fixed_ref rb r)) 32 #[.int .i64 1, .int .i64 l1, .int .i64 l2, .string s, .slice ka keep.length kc]).exch
  have L0 : Hid (Below wB.heap.size w (w.alloc (.cells #[.int .i64 1, .int .i64 l1, .int .i64 l2, .string s, .slice ka keep.length kc] 32))) := (Below.refl _ _).alloc h.1 _
  clear h hb hdl hrl hk
  go_enter Try.func8, Try.ntmps8
  have c0 := H0.out.exch.box.cell 0 _ rfl
  have c1 := H0.out.exch.box.cell 1 _ rfl
  have c2 := H0.out.exch.box.cell 2 _ rfl
  have c3 := H0.out.exch.box.cell 3 _ rfl
  have c4 := H0.out.exch.box.cell 4 _ rfl
  go_wp2_with fail
  generalize World.alloc w _ = w1 at *
  generalize w.heap.size = g at *
  refine (one_read (fixed_both HP1.out (fixed_ref rb r)) H0.out (l1, l2)).mono ?_
  rintro e w2 ⟨rfl, ho, hb⟩
  have H2 := Lib.hid ho
  have L2 := Lib.hid (L0.out.trans hb)
  clear ho hb H0 L0 c0 c1 c2 c3 c4
  obtain ⟨T, hT⟩ : ∃ T, T = tellD d (l1, l2) := ⟨_, rfl⟩
  obtain ⟨U, hU⟩ : ∃ U, U = rtell r (l1, l2) := ⟨_, rfl⟩
  have HT := Lib.hid hT
  have HU := Lib.hid hU
  rw [← hT]
  have hrr := or_read HP1.out H2.out (l1, l2) (Nat.le_trans HRL.out (by decide))
  rw [← hU] at hrr
  clear hT hU
  have c1 := H2.out.exch.box.cell 1 _ rfl
  have c2 := H2.out.exch.box.cell 2 _ rfl
  go_wp2_with fail
  refine hrr.mono ?_
  rintro e w3 ⟨rfl, ho, hb⟩
  have H3 := Lib.hid ho
  have L3 := Lib.hid (L2.out.trans hb)
  clear ho hb H2 L2 hrr
  obtain ⟨bt, hbt⟩ : ∃ bt, (T.toList == U.toList) = bt := ⟨_, rfl⟩
  have HBT := Lib.hid hbt
  cases bt
  · go_wp2
    go_ret
    exact ⟨by rw [← HT.out, ← HU.out, HBT.out]; rfl, H3.out.exch.drop, L3.out⟩
  · go_wp2
    go_ret
    exact ⟨by rw [← HT.out, ← HU.out, HBT.out]; rfl, H3.out.exch.drop, L3.out⟩

set_option maxRecDepth 100000 in
set_option maxHeartbeats 4000000 in
theorem does_c (act l1 l2 : Int) (s : ByteArray) (ka : Option Addr) (kc : Nat) (keep : List Bool) (hk : Sl wB Value.bool ka keep) (e0 : (act == 0) = false) (e1 : (act == 1) = false) (e2 : (act == 2) = false) (e3 : (act == 3) = false) (e4 : (act == 4) = false) (e5 : (act == 5) = false) :
    Calls Try.prog 8 #[.pointer (some ⟨b, 0, none⟩), .pointer (some ⟨rb, 0, none⟩), .agg #[.int .i64 act, .int .i64 l1, .int .i64 l2, .string s, .slice ka keep.length kc]] w fun e w' => e = .returned (.bool true) ∧ One wB.heap.size (Both P (RefF rb r)) b d w' ∧ Below wB.heap.size w w' := by
  have HB := Lib.hid hb
  have HDL := Lib.hid hdl
  have HRL := Lib.hid hrl
  have HK := Lib.hid (And.intro hk trivial)
  have HP1 := Lib.hid (fixed_both hP (fixed_box w.heap.size 32 #[.int .i64 act, .int .i64 l1, .int .i64 l2, .string s, .slice ka keep.length kc]))
  have H0 := Lib.hid (h.addBox (fixed_both hP (fixed_ref rb r)) 32 #[.int .i64 act, .int .i64 l1, .int .i64 l2, .string s, .slice ka keep.length kc]).exch
  have L0 : Hid (Below wB.heap.size w (w.alloc (.cells #[.int .i64 act, .int .i64 l1, .int .i64 l2, .string s, .slice ka keep.length kc] 32))) := (Below.refl _ _).alloc h.1 _
  clear h hb hdl hrl hk
  go_enter Try.func8, Try.ntmps8
  have c0 := H0.out.exch.box.cell 0 _ rfl
  have c1 := H0.out.exch.box.cell 1 _ rfl
  have c2 := H0.out.exch.box.cell 2 _ rfl
  have c3 := H0.out.exch.box.cell 3 _ rfl
  have c4 := H0.out.exch.box.cell 4 _ rfl
  go_wp2_with fail
  generalize World.alloc w _ = w1 at *
  generalize w.heap.size = g at *
  clear c0 c4
  refine (one_copy (fixed_both HP1.out (fixed_ref rb r)) H0.out (Nat.le_trans HDL.out (by decide))).mono ?_
  rintro e w2 ⟨b2, rfl, ho, hb⟩
  have H2 := Lib.hid ho
  have L2 := Lib.hid (L0.out.trans hb)
  have HP2 := Lib.hid (fixed_both (fixed_both HP1.out (fixed_ref rb r)) (fixed_dev b d))
  have k1 : w2.cell? ⟨g, 1, none⟩ = some (.int .i64 l1) := H2.out.swap.drop.exch.box.cell 1 _ rfl
  have k2 : w2.cell? ⟨g, 2, none⟩ = some (.int .i64 l2) := H2.out.swap.drop.exch.box.cell 2 _ rfl
  have k3 : w2.cell? ⟨g, 3, none⟩ = some (.string s) := H2.out.swap.drop.exch.box.cell 3 _ rfl
  clear ho hb H0 L0 c1 c2 c3
  go_wp2_with fail
  refine (one_write HP2.out H2.out (l1, l2) s (Nat.le_trans HDL.out (by decide))).mono ?_
  rintro e w3 ⟨rfl, ho, hb⟩
  have H3 := Lib.hid ho
  have L3 := Lib.hid (L2.out.trans hb)
  have HWL : Hid ((writeD d (l1, l2) s).waits.length ≤ 100000) := by
    have h1 := writeD_len d (l1, l2) s
    have := HDL.out
    show _ ≤ _
    omega
  clear ho hb H2 L2 k1 k2 k3
  generalize writeD d (l1, l2) s = D at *
  go_wp2_with fail
  refine (one_flush HP2.out H3.out HWL.out).mono ?_
  rintro e w4 ⟨rfl, ho, hb⟩
  have H4 := Lib.hid ho
  have L4 := Lib.hid (L3.out.trans hb)
  clear ho hb H3 L3
  go_wp2_with fail
  refine (one_lose HP2.out H4.out 0 (by show (List.length []) ≤ 100000; decide)).mono ?_
  rintro e w5 ⟨rfl, ho, hb⟩
  have H5 := Lib.hid ho
  have L5 := Lib.hid (L4.out.trans hb)
  clear ho hb H4 L4
  go_wp2
  go_ret
  exact ⟨rfl, H5.out.swap.drop.exch.drop, L5.out⟩

theorem does_any (x : OpD) (hk : Sl wB Value.bool x.ka x.keep) :
    Calls Try.prog 8 #[.pointer (some ⟨b, 0, none⟩), .pointer (some ⟨rb, 0, none⟩), .agg #[.int .i64 x.act, .int .i64 x.l.1, .int .i64 x.l.2, .string x.s, .slice x.ka x.keep.length x.kc]] w fun e w' => e = .returned (.bool (doesB d r x)) ∧ One wB.heap.size (Both P (RefF rb (stepR r x))) b (stepR d x) w' ∧ Below wB.heap.size w w' := by
  obtain ⟨act, ⟨l1, l2⟩, s, ka, kc, keep⟩ := x
  unfold stepR doesB
  dsimp only at hk ⊢
  by_cases h0 : act = 0
  · subst h0
    exact does_0 hP h hb hdl hrl l1 l2 s ka kc keep hk
  rw [if_neg h0, if_neg h0, if_neg h0]
  by_cases h1 : act = 1
  · subst h1
    exact does_1 hP h hb hdl hrl l1 l2 s ka kc keep hk
  rw [if_neg h1, if_neg h1, if_neg h1]
  by_cases h2 : act = 2
  · subst h2
    exact does_2 hP h hb hdl hrl l1 l2 s ka kc keep hk
  rw [if_neg h2, if_neg h2, if_neg h2]
  by_cases h3 : act = 3
  · subst h3
    exact does_3 hP h hb hdl hrl l1 l2 s ka kc keep hk
  rw [if_neg h3, if_neg h3, if_neg h3]
  by_cases h4 : act = 4
  · subst h4
    exact does_4 hP h hb hdl hrl l1 l2 s ka kc keep hk
  rw [if_neg h4, if_neg h4, if_neg h4]
  by_cases h5 : act = 5
  · subst h5
    exact does_5 hP h hb hdl hrl l1 l2 s ka kc keep hk
  rw [if_neg h5, if_neg h5]
  exact does_c hP h hb hdl hrl act l1 l2 s ka kc keep hk (beq_eq_false_iff_ne.2 h0) (beq_eq_false_iff_ne.2 h1) (beq_eq_false_iff_ne.2 h2) (beq_eq_false_iff_ne.2 h3) (beq_eq_false_iff_ne.2 h4) (beq_eq_false_iff_ne.2 h5)
end
end Go.Proofs.Ytflobdhhjfpcdaa
