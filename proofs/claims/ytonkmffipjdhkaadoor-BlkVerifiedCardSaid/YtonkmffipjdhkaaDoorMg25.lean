/-
  Texts put together: BlkJ, BlkK, DevMath.
-/
import Derived.Test.YtonkmffipjdhkaaDoorMg24
import Derived.Test.YtonkmffipjdhkaaDoorBlkH
import Derived.Test.YtonkmffipjdhkaaDoorMg18
import Derived.Test.YtonkmffipjdhkaaDoorMg9
namespace Go.Proofs.YtonkmffipjdhkaaDoor
open Go.RowKit Go.ChangeShapes Go.WideShapes Go.ChangeAt

theorem One.swapR {B : Nat} {P Q R : List Nat → World → Prop} {b : Nat} {d : DevD} {w : World} (h : One B (Both (Both P Q) R) b d w) : One B (Both (Both P R) Q) b d w := by
  obtain ⟨hz, F, _, h1, ⟨_, G3, rfl, ⟨G1, G2, rfl, h2, h3, h4⟩, h5, h6⟩, h7, h8⟩ := h
  have m1 : ∀ k ∈ G1, k ∈ G1 ++ G2 ++ G3 := fun k hk => List.mem_append_left _ (List.mem_append_left _ hk)
  have m2 : ∀ k ∈ G2, k ∈ G1 ++ G2 ++ G3 := fun k hk => List.mem_append_left _ (List.mem_append_right _ hk)
  have m3 : ∀ k ∈ G3, k ∈ G1 ++ G2 ++ G3 := fun k hk => List.mem_append_right _ hk
  have mm : ∀ k ∈ G1 ++ G3 ++ G2, k ∈ G1 ++ G2 ++ G3 := fun k hk => by
    rcases List.mem_append.1 hk with hk | hk
    · rcases List.mem_append.1 hk with hk | hk
      · exact m1 k hk
      · exact m3 k hk
    · exact m2 k hk
  refine ⟨hz, F, _, h1, ⟨G1 ++ G3, G2, rfl, ⟨G1, G3, rfl, h2, h5, fun k hk => h6 k (List.mem_append_left _ hk)⟩, h3, fun k hk hm => ?_⟩, fun k hk => ⟨(h7 k hk).1, fun hm => (h7 k hk).2 (mm k hm)⟩, fun k hk => h8 k (mm k hk)⟩
  rcases List.mem_append.1 hk with hk | hk
  · exact h4 k hk hm
  · exact h6 k (List.mem_append_right _ hm) hk
def wrK (d : DevD) (locs : List (Int × Int)) (s : ByteArray) (k : Nat) : DevD := (locs.take k).foldl (fun d l => writeD d l s) d
def wrB (d : DevD) (locs : List (Int × Int)) (s : ByteArray) : DevD := locs.foldl (fun d l => writeD d l s) d
theorem wrK_succ (d : DevD) (locs : List (Int × Int)) (s : ByteArray) (k : Nat) (h : k < locs.length) : wrK d locs s (k + 1) = writeD (wrK d locs s k) locs[k] s := by
  unfold wrK
  rw [List.take_succ_eq_append_getElem h, List.foldl_append]
  rfl
theorem wrK_end (d : DevD) (locs : List (Int × Int)) (s : ByteArray) : wrK d locs s locs.length = wrB d locs s := by unfold wrK wrB; rw [List.take_length]
theorem wrK_len (d : DevD) (locs : List (Int × Int)) (s : ByteArray) : ∀ k, k ≤ locs.length → (wrK d locs s k).waits.length ≤ d.waits.length + k
  | 0, _ => Nat.le_refl _
  | k + 1, h => by
    have h1 := wrK_len d locs s k (by omega)
    rw [wrK_succ d locs s k (by omega)]
    have h3 : (writeD (wrK d locs s k) locs[k] s).waits.length ≤ (wrK d locs s k).waits.length + 1 := by
      unfold writeD
      split <;> simp
    omega

def objW (g b : Nat) (r : Array Value) : List (Nat × Obj) := [(g, .cells #[.pointer (some ⟨b, 0, none⟩)] 27 (0, 0)), (g + 1, .cells r 25 (0, 0))]

set_option maxRecDepth 100000 in
set_option maxHeartbeats 2000000 in
theorem bwrite_ok {B : Nat} {P : List Nat → World → Prop} (hP : Fixed P) {b : Nat} {d : DevD} {w : World} (h : One B P b d w) (hB : 0 < B) (a : Option Addr) (cap : Nat) (locs : List (Int × Int)) (s : ByteArray) (birth : Int) (hl : locs.length ≤ 1000) (hs : SlP w a locs) (hz : s.size ≤ 140737488355328) (hK : Kt w)
    (hbad : ¬ badP (wrP locs s birth)) (hfar : locs.any (farW (devSize d)) = false) (hgone : locs.any (fun l => devLost d l.1) = false) (hw : d.waits.length ≤ 90000) :
    Calls Tryd.prog 10 #[.pointer (some ⟨b, 0, none⟩), .slice a locs.length cap, .string s, .int .i64 birth] w fun e w' => ∃ a' c', e = .returned (.tuple #[ptrV a' c' (wrP locs s birth), .int .i64 0]) ∧ One B (Both P (LocP a' locs)) b (wrB d locs s) w' ∧ Below B w w' := by
  obtain ⟨Wa, hWa⟩ : ∃ Wa, Wa = (w.alloc (.cells #[.pointer (some ⟨b, 0, none⟩)] 27)).alloc (.cells #[.slice none 0 0, .int .i64 0, .int .i64 0, .string ⟨#[]⟩] 25) := ⟨_, rfl⟩
  have hba : Below w.heap.size w Wa := by rw [hWa]; exact ((Below.refl _ w).alloc (Nat.le_refl _) _).alloc (by rw [size_alloc]; omega) _
  have hbd : Box Wa w.heap.size 27 #[.pointer (some ⟨b, 0, none⟩)] := by rw [hWa]; exact (Box.new w _ _).alloc _
  have hbr : Box Wa (w.heap.size + 1) 25 #[.slice none 0 0, .int .i64 0, .int .i64 0, .string ⟨#[]⟩] := by
    rw [hWa]
    have := Box.new (w.alloc (.cells #[.pointer (some ⟨b, 0, none⟩)] 27)) 25 #[.slice none 0 0, .int .i64 0, .int .i64 0, .string ⟨#[]⟩]
    rwa [size_alloc] at this
  have hoa : One B (Both P (ObjP (objW w.heap.size b #[.slice none 0 0, .int .i64 0, .int .i64 0, .string ⟨#[]⟩]))) b d Wa := h.add hP hba ⟨_, ⟨rfl, fun x hx => by
    simp only [objW, List.mem_cons, List.not_mem_nil, or_false] at hx
    rcases hx with rfl | rfl
    · exact hbd
    · exact hbr⟩, fun k hk => by
    simp only [objW, List.map_cons, List.map_nil, List.mem_cons, List.not_mem_nil, or_false] at hk
    omega⟩
  have HFA := Lib.hid (fixed_both hP (fixed_obj (objW w.heap.size b #[.slice none 0 0, .int .i64 0, .int .i64 0, .string ⟨#[]⟩])))
  have HOA := Lib.hid hoa
  have HBA : Hid (Below B w Wa) := hba.mono h.1
  have HZB : Hid (B ≤ w.heap.size) := h.1
  have HS := Lib.hid (hs.keep hba)
  have HK := Lib.hid hK
  have HP := Lib.hid hB
  have HBAD := Lib.hid hbad
  have HFAR := Lib.hid hfar
  have HGN := Lib.hid hgone
  have HW := Lib.hid hw
  clear hba hbd hbr hs hK hoa hB hbad hfar hgone h hw
  go_enter Tryd.func10, Tryd.ntmps10
  go_wp2_with fail
  rw [← hWa]
  clear hWa
  refine (clone_locs a cap locs Wa HS.out hl).mono ?_
  rintro e w1 ⟨a', c', rfl, hG, hb⟩
  have HO1 := Lib.hid (HOA.out.add HFA.out hb hG)
  have HFL := Lib.hid (fixed_both HFA.out (fixed_loc a' locs))
  have HB1 := Lib.hid (HBA.out.trans (hb.mono HOA.out.1))
  clear hb hG HBA HS HOA
  go_wp2_with fail
  refine (of_any s w1 (Nat.le_trans hz (by decide)) (HK.out.below HB1.out HP.out)).mono ?_
  rintro e w2 ⟨rfl, hb⟩
  have HO2 := Lib.hid (HO1.out.keep HFL.out hb)
  have HB2 := Lib.hid (HB1.out.trans (hb.mono HO1.out.1))
  clear hb HB1 HO1
  have HWP : Hid (wrP locs s birth = ⟨locs, s.size, birth, sha s⟩) := rfl
  generalize sha s = sh at *
  have HO3 := Lib.hid (HO2.out.addBox HFL.out 25 #[.slice a' locs.length c', .int .i64 s.size, .int .i64 birth, .string sh])
  have HFP := Lib.hid (fixed_both HFL.out (fixed_box w2.heap.size 25 #[.slice a' locs.length c', .int .i64 s.size, .int .i64 birth, .string sh]))
  have HB3 := Lib.hid (HB2.out.trans (((Below.refl w2.heap.size w2).alloc (Nat.le_refl _) (.cells #[.slice a' locs.length c', .int .i64 s.size, .int .i64 birth, .string sh] 25)).mono HO2.out.1))
  clear HB2 HO2
  have k0 := HO3.out.box.cell 0 _ rfl
  have k1 := HO3.out.box.cell 1 _ rfl
  have k2 := HO3.out.box.cell 2 _ rfl
  have k3 := HO3.out.box.cell 3 _ rfl
  go_wp2_with fail
  generalize World.alloc w2 _ = w3 at *
  generalize w2.heap.size = np at *
  have hck := check_any a' c' ⟨locs, s.size, birth, sh⟩ w3 HO3.out.drop.row hl
  unfold ptrV at hck
  refine hck.mono ?_
  rintro e w4 ⟨rfl, hb⟩
  rw [show chkP ⟨locs, s.size, birth, sh⟩ = 0 from by rw [← HWP.out]; exact if_neg HBAD.out]
  have HO4 := Lib.hid (HO3.out.keep HFP.out hb)
  have HB4 := Lib.hid (HB3.out.trans (hb.mono HO3.out.1))
  clear hb hck k0 k1 k2 k3 HB3 HO3
  have hdc : ∀ W, One B (Both (Both (Both P (ObjP (objW w.heap.size b #[.slice none 0 0, .int .i64 0, .int .i64 0, .string ⟨#[]⟩]))) (LocP a' locs)) (BoxP np 25 #[.slice a' locs.length c', .int .i64 s.size, .int .i64 birth, .string sh])) b d W → W.cell? ⟨w.heap.size, 0, none⟩ = some (.pointer (some ⟨b, 0, none⟩)) := fun W hW => Box.cell (t := 27) (hW.drop.drop.obj (w.heap.size, .cells #[.pointer (some ⟨b, 0, none⟩)] 27 (0, 0)) (by simp [objW])) 0 _ rfl
  have HDC := Lib.hid hdc
  clear hdc
  have k0 := HO4.out.box.cell 0 _ rfl
  go_wp2_with fail
  refine (contains_w1 a' c' locs w.heap.size (farW (devSize d)) w4 HO4.out.drop.row hl (of_w1 (HDC.out _ HO4.out) (one_szf HFP.out HO4.out))).mono ?_
  rintro e w5 ⟨rfl, hb⟩
  rw [HFAR.out]
  have HO5 := Lib.hid (HO4.out.keep HFP.out hb)
  have HB5 := Lib.hid (HB4.out.trans (hb.mono HO4.out.1))
  clear hb k0 HO4 HB4
  have k0 := HO5.out.box.cell 0 _ rfl
  go_wp2_with fail
  refine (contains_w2 a' c' locs w.heap.size (fun l => devLost d l.1) w5 HO5.out.drop.row hl (of_w2 (HDC.out _ HO5.out) (one_lof HFP.out HO5.out))).mono ?_
  rintro e w6 ⟨rfl, hb⟩
  rw [HGN.out]
  have HO6 := Lib.hid (HO5.out.keep HFP.out hb)
  have HB6 := Lib.hid (HB5.out.trans (hb.mono HO5.out.1))
  clear hb k0 HO5 HB5 HDC
  have k0 := HO6.out.box.cell 0 _ rfl
  obtain ⟨g, hg⟩ : ∃ g, g = w.heap.size := ⟨_, rfl⟩
  rw [← hg] at HO6 HFP HFL HFA HZB ⊢
  have HG := Lib.hid hg
  clear hg
  go_wp2_with fail
  clear k0
  go_loopw [12, 39] (fun _ i wr => ∃ k : Nat, k ≤ locs.length ∧ i = .int .i64 k ∧ Hid (One B (Both (Both (Both P (ObjP (objW g b #[.slice none 0 0, .int .i64 0, .int .i64 0, .string ⟨#[]⟩]))) (LocP a' locs)) (BoxP np 25 #[.slice a' locs.length c', .int .i64 s.size, .int .i64 birth, .string sh])) b (wrK d locs s k) wr) ∧ Hid (Below B w wr)) (fun _ i _ => locs.length - (intOf i).toNat)
  case atStart => exact ⟨0, Nat.zero_le _, rfl, HO6, HB6⟩
  case round =>
    clear HO6 HB6
    obtain ⟨k, hk, rfl, HO, HL⟩ := hrel
    by_cases hlt : k < locs.length
    · obtain ⟨bb, off, rfl, hb, hc0, hc1⟩ := HO.out.drop.row.get k hlt
      have HLT := Lib.hid hlt
      have HK1 := Lib.hid (wrK_succ d locs s k hlt)
      have HKL := Lib.hid (wrK_len d locs s k hk)
      generalize wrK d locs s k = dk at *
      generalize locs[k] = lk at *
      obtain ⟨la, lb⟩ := lk
      simp only at hc0 hc1
      have hx := (Below.refl wr.heap.size wr).alloc (Nat.le_refl _) (.cells #[.int .i64 la, .int .i64 lb] 33)
      have HO1 := Lib.hid (HO.out.keep HFP.out hx)
      have HL1 := Lib.hid (HL.out.trans (hx.mono HO.out.1))
      have BX := Lib.hid (Box.new wr 33 #[.int .i64 la, .int .i64 lb])
      have x0 := BX.out.cell 0 _ rfl
      have x1 := BX.out.cell 1 _ rfl
      have x2 : (wr.alloc (.cells #[.int .i64 la, .int .i64 lb] 33)).cell? ⟨g, 0, none⟩ = some (.pointer (some ⟨b, 0, none⟩)) := Box.cell (t := 27) (HO1.out.drop.drop.obj (g, .cells #[.pointer (some ⟨b, 0, none⟩)] 27 (0, 0)) (by simp [objW])) 0 _ rfl
      have hwr := one_write HFP.out HO1.out (la, lb) s (by have := HKL.out; have := HW.out; omega)
      unfold locV at hwr
      clear hx hb HO HL
      go_wp2_with fail
      refine hwr.mono ?_
      rintro e w8 ⟨rfl, ho, hb⟩
      have HO8 := Lib.hid ho
      have HL8 := Lib.hid (HL1.out.trans hb)
      clear ho hb hwr x0 x1 x2 hc0 hc1
      go_wp2
      go_roundw
      case rel => exact ⟨k + 1, HLT.out, by go_num, by show One _ _ _ _ _; rw [HK1.out]; exact HO8.out, HL8⟩
      case measure => have := HLT.out; simp [intOf]; omega
    · obtain rfl : k = locs.length := by omega
      rw [wrK_end] at HO
      have k0 := HO.out.box.cell 0 _ rfl
      have k1 := HO.out.box.cell 1 _ rfl
      have k2 := HO.out.box.cell 2 _ rfl
      have k3 := HO.out.box.cell 3 _ rfl
      have hbr : Box wr (g + 1) 25 #[.slice none 0 0, .int .i64 0, .int .i64 0, .string ⟨#[]⟩] := HO.out.drop.drop.obj (g + 1, .cells #[.slice none 0 0, .int .i64 0, .int .i64 0, .string ⟨#[]⟩] 25 (0, 0)) (by simp [objW])
      have HBR := Lib.hid hbr
      clear hbr
      have r0 := HBR.out.cell 0 _ rfl
      have r1 := HBR.out.cell 1 _ rfl
      have r2 := HBR.out.cell 2 _ rfl
      have r3 := HBR.out.cell 3 _ rfl
      have f0 := HBR.out.free 0
      have f1 := HBR.out.free 1
      have f2 := HBR.out.free 2
      have f3 := HBR.out.free 3
      go_wp2
      refine bodyPost_ret (results_cell_row_tmp2 rfl _ _ (g + 1) 25 _ (0, 0) _ rfl (box4 HBR.out) Tryd.underlying25 rfl sizePtr) rfl ?_
      have ht := HO.out.drop.swapR.touch (fixed_both hP (fixed_loc a' locs)) (w' := (((wr.setCell ⟨g + 1, 0, none⟩ (.slice a' locs.length c')).setCell ⟨g + 1, 1, none⟩ (.int .i64 s.size)).setCell ⟨g + 1, 2, none⟩ (.int .i64 birth)).setCell ⟨g + 1, 3, none⟩ (.string sh)) (L' := objW g b #[.slice a' locs.length c', .int .i64 s.size, .int .i64 birth, .string sh]) (g + 1) (by simp [objW]) chg4 rfl (by
        intro x hx
        simp only [objW, List.mem_cons, List.not_mem_nil, or_false] at hx
        rcases hx with rfl | rfl
        · exact (chg4.block g (by have := HBR.out.lt; omega) (by simp)).trans (HO.out.drop.drop.obj (g, .cells #[.pointer (some ⟨b, 0, none⟩)] 27 (0, 0)) (by simp [objW]))
        · exact box4 HBR.out)
      exact ⟨a', c', by rw [HWP.out]; rfl, ht.drop, HL.out.trans (chg4.below HO.out.1 (by intro k hk; rw [List.mem_singleton] at hk; have := HZB.out; omega))⟩
end Go.Proofs.YtonkmffipjdhkaaDoor

namespace Go.Proofs.YtonkmffipjdhkaaDoor
open Go Go.RowKit Go.ChangeShapes Go.WideShapes Go.ChangeAt

set_option maxRecDepth 100000 in
set_option maxHeartbeats 1000000 in
theorem bools_any (a b : Option Addr) (ca cb : Nat) (la lb : List Bool) (w : World) (ha : Sl w Value.bool a la) (hb : Sl w Value.bool b lb) (hla : la.length ≤ 1000) (hlb : lb.length ≤ 1000) :
    Calls Tryd.prog 18 #[.slice a la.length ca, .slice b lb.length cb] w fun e w' => e = .returned (.bool (decide (la = lb))) ∧ Below w.heap.size w w' := by
  have HA := Lib.hid ha
  have HB := Lib.hid hb
  clear ha hb
  by_cases hn : la.length = lb.length
  · have hq : ((la.length : Int) != (lb.length : Int)) = false := by simp [hn]
    obtain ⟨r, hr⟩ : ∃ r, decide (la = lb) = r := ⟨_, rfl⟩
    rw [hr]
    have HR := Lib.hid hr
    have HN := Lib.hid hn
    clear hr hn
    go_enter Tryd.func18, Tryd.ntmps18
    go_wp2
    go_loopw [5] (fun i wr => ∃ k : Nat, k ≤ la.length ∧ i = .int .i64 k ∧ Hid (la.take k = lb.take k) ∧ Hid (Below w.heap.size w wr)) (fun i _ => la.length - (intOf i).toNat)
    case atStart => exact ⟨0, Nat.zero_le _, rfl, by show _ = _; simp, Below.refl _ _⟩
    case round =>
      clear hq
      obtain ⟨k, hk, rfl, HT, HL⟩ := hrel
      by_cases hlt : k < la.length
      · have hlt2 : k < lb.length := by have := HN.out; omega
        obtain ⟨b1, o1, rfl, hl1, hc1⟩ := HA.out (by intro e; rw [e] at hlt; simp at hlt)
        obtain ⟨b2, o2, rfl, hl2, hc2⟩ := HB.out (by intro e; rw [e] at hlt2; simp at hlt2)
        have x1 : wr.cell? ⟨b1, o1 + k, none⟩ = some (.bool la[k]) := (HL.out.cell (p := ⟨b1, o1 + k, none⟩) hl1).trans (hc1 k _ (List.getElem?_eq_getElem hlt))
        have x2 : wr.cell? ⟨b2, o2 + k, none⟩ = some (.bool lb[k]) := (HL.out.cell (p := ⟨b2, o2 + k, none⟩) hl2).trans (hc2 k _ (List.getElem?_eq_getElem hlt2))
        have HS : Hid (la[k] = lb[k] → la.take (k + 1) = lb.take (k + 1)) := fun e => by
          rw [List.take_succ_eq_append_getElem hlt, List.take_succ_eq_append_getElem hlt2, HT.out, e]
        have HX : Hid (la[k] ≠ lb[k] → r = false) := fun e => by
          rw [← HR.out]
          refine decide_eq_false fun h => e ?_
          subst h
          rfl
        have hk0 : (0 : Int) ≤ (k : Int) := by omega
        have hk1 : (k : Int) < (la.length : Int) := by omega
        have hk2 : (k : Int) < (lb.length : Int) := by omega
        have HLT := Lib.hid hlt
        have HDN : Hid (Below w.heap.size w wr.drew) := ⟨HL.out.os, HL.out.tape, HL.out.output, HL.out.size, HL.out.block⟩
        generalize la[k] = u at *
        generalize lb[k] = v at *
        clear hc1 hc2 hl1 hl2 hlt hlt2
        go_wp2_with fail
        refine wp_region_sched (fun W => W.cell? ⟨b1, o1 + k, none⟩ = some (.bool u) ∧ W.cell? ⟨b2, o2 + k, none⟩ = some (.bool v)) 8 [(0, false), (1, false), (2, false), (3, false), (4, false), (5, false), (6, false), (7, false)] (by kernel_rfl) (by kernel_rfl) ⟨x1, x2⟩ ?_
        simp only [List.drop_succ_cons, List.drop_zero]
        iterate 8 (apply wpSch_step rfl; (intro W hS K hK; obtain ⟨r1, r2⟩ := hS; go_simp; exact hK _ rfl))
        refine wpSch_nil ?_
        clear x1 x2
        cases u
        · cases v
          · have HSS := Lib.hid (HS.out rfl)
            clear HX
            go_wp2
            go_roundw
            case rel => exact ⟨k + 1, HLT.out, by go_num, HSS, HDN⟩
            case measure => have := HLT.out; simp [intOf]; omega
          · have HXX := Lib.hid (HX.out (by simp))
            clear HX
            go_wp2
            go_ret
            exact ⟨ret_bool HXX.out.symm, HDN.out⟩
        · cases v
          · have HXX := Lib.hid (HX.out (by simp))
            clear HX
            go_wp2
            go_ret
            exact ⟨ret_bool HXX.out.symm, HDN.out⟩
          · have HSS := Lib.hid (HS.out rfl)
            clear HX
            go_wp2
            go_roundw
            case rel => exact ⟨k + 1, HLT.out, by go_num, HSS, HDN⟩
            case measure => have := HLT.out; simp [intOf]; omega
      · obtain rfl : k = la.length := by omega
        have HF : Hid (r = true) := by
          show _ = _
          rw [← HR.out]
          refine decide_eq_true ?_
          have h1 := HT.out
          rw [List.take_length, HN.out, List.take_length] at h1
          exact h1
        go_wp2
        go_ret
        exact ⟨ret_bool HF.out.symm, HL.out⟩
  · have hq : ((la.length : Int) != (lb.length : Int)) = true := by simp; omega
    have HR := Lib.hid (show decide (la = lb) = false from decide_eq_false (fun h => hn (by rw [h])))
    clear hn
    go_enter Tryd.func18, Tryd.ntmps18
    go_wp2
    go_ret
    exact ⟨ret_bool HR.out.symm, Below.refl _ _⟩

section
variable {B : Nat} {P : List Nat → World → Prop} (hP : Fixed P) {b : Nat} {d : DevD} {w : World} {a : Option Addr} {p : PtrD} (h : One B (Both P (LocP a p.locs)) b d w) (hB : 0 < B) (hK : Kt w)
include hP h hK
theorem oread (cap : Nat) (hl : p.locs.length ≤ 1000) (hT : ∀ l, (tellD d l).size ≤ 140737488355328) : Calls Tryd.prog 14 #[.pointer (some ⟨b, 0, none⟩), ptrV a cap p] w fun e w' =>
    e = .returned (.tuple #[.string (readR (toldD d p) p).1, .int .i64 ((readR (toldD d p) p).2.1 : Nat), .int .i64 (readR (toldD d p) p).2.2]) ∧ Below w.heap.size w w' :=
  bread_any _ a cap p _ w hl h.row hK (fun _ => hT _) (one_rd (fixed_both hP (fixed_loc a p.locs)) h p)
theorem ogood (cap : Nat) (hl : p.locs.length ≤ 1000) (hT : ∀ l, (tellD d l).size ≤ 140737488355328) : Calls Tryd.prog 19 #[.pointer (some ⟨b, 0, none⟩), ptrV a cap p] w fun e w' =>
    ∃ v, e = .returned v ∧ Bs w' w.heap.size v (goodR (toldD d p) p) ∧ Below w.heap.size w w' :=
  bgood_any _ a cap p _ w hl h.row hK (fun _ => hT _) (one_rd (fixed_both hP (fixed_loc a p.locs)) h p)
include hB
theorem omend (cap : Nat) (hl : p.locs.length ≤ 1000) (hT : ∀ l, (tellD d l).size ≤ 140737488355328) (s : ByteArray) (nx : Nat) (hr : readR (toldD d p) p = (s, nx, 0)) (hT2 : ∀ k, k < p.locs.length → ∀ l, (tellD (mdK p s d k).1 l).size ≤ 140737488355328) (hw : d.waits.length ≤ 90000) : Calls Tryd.prog 15 #[.pointer (some ⟨b, 0, none⟩), ptrV a cap p] w fun e w' =>
    e = .returned (.tuple #[.int .i64 ((mdK p s d p.locs.length).2 : Nat), .int .i64 0]) ∧ One B (Both P (LocP a p.locs)) b (mdK p s d p.locs.length).1 w' ∧ Below B w w' :=
  bmend_ok (fixed_both hP (fixed_loc a p.locs)) h hB hK a cap p hl (fun _ _ hW _ => hW.row) (fun _ => hT _) s nx hr (fun k hk => hT2 k hk _) hw
end
end Go.Proofs.YtonkmffipjdhkaaDoor

namespace Go.Proofs.YtonkmffipjdhkaaDoor
open Go.RowKit

theorem take_mem {α : Type} (l : List α) (k : Nat) (h : k < l.length) : l[k] ∈ l.take (k + 1) := by
  rw [List.take_succ_eq_append_getElem h]
  exact List.mem_append_right _ (List.mem_singleton.2 rfl)
theorem chkD_congr {d d' : DevD} (l : Int × Int) (n : Nat) (hs : ∀ dev, devSize d dev = devSize d' dev) (hl : ∀ dev, devLost d dev = devLost d' dev) : chkD d l n = chkD d' l n := by
  unfold chkD
  rw [hs, hl]
theorem lost_setTell (d : DevD) (l : Int × Int) (s : ByteArray) (dev : Int) : devLost (setTell d l s) dev = devLost d dev := by
  by_cases h : l.1 = 0 <;> simp [setTell, devLost, h]
theorem lost_setHas (d : DevD) (l : Int × Int) (s : ByteArray) (dev : Int) : devLost (setHas d l s) dev = devLost d dev := by
  by_cases h : l.1 = 0 <;> simp [setHas, devLost, h]
theorem size_writeD (d : DevD) (l : Int × Int) (s : ByteArray) (dev : Int) : devSize (writeD d l s) dev = devSize d dev := by
  unfold writeD
  split
  · exact size_setTell d l s dev
  · rfl
theorem lost_writeD (d : DevD) (l : Int × Int) (s : ByteArray) (dev : Int) : devLost (writeD d l s) dev = devLost d dev := by
  unfold writeD
  split
  · exact lost_setTell d l s dev
  · rfl
theorem setTell_has (d : DevD) (l : Int × Int) (s : ByteArray) : (setTell d l s).s0.has = d.s0.has ∧ (setTell d l s).s1.has = d.s1.has ∧ (setTell d l s).waits = d.waits := by
  by_cases h : l.1 = 0 <;> simp [setTell, h]
theorem writeD_has (d : DevD) (l : Int × Int) (s : ByteArray) : (writeD d l s).s0.has = d.s0.has ∧ (writeD d l s).s1.has = d.s1.has := by
  unfold writeD
  split
  · exact ⟨(setTell_has d l s).1, (setTell_has d l s).2.1⟩
  · exact ⟨rfl, rfl⟩
theorem writeD_waits (d : DevD) (l : Int × Int) (s : ByteArray) : (writeD d l s).waits = if chkD d l s.size = 0 then d.waits ++ [(l, s)] else d.waits := by
  unfold writeD
  split <;> rfl
theorem writeD_len (d : DevD) (l : Int × Int) (s : ByteArray) : (writeD d l s).waits.length ≤ d.waits.length + 1 := by
  rw [writeD_waits]
  split <;> simp
theorem lost_foldHas (l : List WrD) (dev : Int) : ∀ d : DevD, devLost (foldHas d l) dev = devLost d dev := by
  induction l with
  | nil => intro d; rfl
  | cons x l ih =>
    intro d
    show devLost (foldHas (setHas d x.1 x.2) l) dev = _
    rw [ih, lost_setHas]
theorem size_endD (d : DevD) (l : List WrD) (dev : Int) : devSize (endD d l) dev = devSize d dev := by
  rw [← size_foldHas l dev d]
  rfl
theorem lost_endD (d : DevD) (l : List WrD) (dev : Int) : devLost (endD d l) dev = devLost d dev := by
  rw [← lost_foldHas l dev d]
  rfl
/-- What a sector has. -/
def hasAt (d : DevD) (l : Int × Int) : ByteArray := (sideOf d l.1).has.getD l.2.toNat ⟨#[]⟩
theorem tell_endD (d : DevD) (l : List WrD) (x : Int × Int) (h : chkD d x 0 = 0) : tellD (endD d l) x = hasAt (foldHas d l) x := by
  unfold tellD
  rw [if_pos (by rw [chkD_congr x 0 (size_endD d l) (lost_endD d l)]; exact h)]
  have hd := (chkD_ok h).1
  unfold hasAt sideOf
  rcases hd with e | e <;> rw [e] <;> rfl
theorem setHas_side (d : DevD) (x : Int × Int) (s : ByteArray) (hx : locOk d x) (dev : Int) (hd : dev = 0 ∨ dev = 1) : (sideOf (setHas d x s) dev).has = if x.1 = dev then (sideOf d dev).has.set x.2.toNat s else (sideOf d dev).has := by
  have h1 := hx.1
  rcases h1 with e | e <;> rcases hd with rfl | rfl <;> simp [setHas, sideOf, e]
theorem size_side (d : DevD) (dev : Int) (hd : dev = 0 ∨ dev = 1) : devSize d dev = (sideOf d dev).has.length := by
  rcases hd with rfl | rfl <;> rfl
theorem hasAt_set (d : DevD) (x : Int × Int) (s : ByteArray) (l : Int × Int) (hx : locOk d x) (hl : locOk d l) : hasAt (setHas d x s) l = if x = l then s else hasAt d l := by
  unfold hasAt
  rw [setHas_side d x s hx l.1 hl.1]
  obtain ⟨x1, x2⟩ := x
  obtain ⟨l1, l2⟩ := l
  obtain ⟨hl1, hl2, hl3⟩ := hl
  obtain ⟨hx1, hx2, hx3⟩ := hx
  simp only at *
  by_cases h1 : x1 = l1
  · subst h1
    rw [if_pos rfl]
    by_cases h2 : x2 = l2
    · subst h2
      rw [if_pos rfl, List.getD, List.getElem?_set_self (by rw [size_side d x1 hx1] at hx3; omega)]
      rfl
    · rw [if_neg (by simpa using h2), List.getD, List.getElem?_set_ne (by omega)]
      rfl
  · rw [if_neg h1, if_neg (by simp [h1])]
theorem hasAt_fold' (l : Int × Int) (ws : List WrD) (d : DevD) (hl : locOk d l) (hw : ∀ x ∈ ws, locOk d x.1) : ∀ k, k ≤ ws.length → hasAt (foldHas d (ws.take k)) l = hasAt d l ∨ ∃ x ∈ ws.take k, x.1 = l ∧ x.2 = hasAt (foldHas d (ws.take k)) l
  | 0, _ => .inl rfl
  | k + 1, hk => by
    have hlo : ∀ y, locOk d y → locOk (foldHas d (ws.take k)) y := fun y hy => by unfold locOk at *; rw [size_foldHas]; exact hy
    have ht := List.take_succ_eq_append_getElem (l := ws) (i := k) (by omega)
    rw [ht, foldHas_snoc, hasAt_set _ _ _ _ (hlo _ (hw _ (List.getElem_mem (by omega)))) (hlo _ hl)]
    by_cases h : (ws[k]).1 = l
    · rw [if_pos h]
      exact .inr ⟨ws[k], List.mem_append_right _ (List.mem_singleton.2 rfl), h, rfl⟩
    · rw [if_neg h]
      rcases hasAt_fold' l ws d hl hw k (by omega) with h1 | ⟨y, h1, h2, h3⟩
      · exact .inl h1
      · exact .inr ⟨y, List.mem_append_left _ h1, h2, h3⟩
theorem hasAt_fold (l : Int × Int) (ws : List WrD) (d : DevD) (hl : locOk d l) (hw : ∀ x ∈ ws, locOk d x.1) : hasAt (foldHas d ws) l = hasAt d l ∨ ∃ x ∈ ws, x.1 = l ∧ x.2 = hasAt (foldHas d ws) l := by
  have := hasAt_fold' l ws d hl hw ws.length (Nat.le_refl _)
  rwa [List.take_of_length_le (Nat.le_refl _)] at this

/-- The devices of DevOrder behind k writes; the text that shall stand. -/
def ordD (l : List ByteArray) (k : Nat) : DevD := (l.take k).foldl (fun d s => writeD d (0, 2) s) (newD 5 5)
def wantL (l : List ByteArray) (keep : List Bool) : Nat → ByteArray
  | 0 => ⟨#[]⟩
  | k + 1 => if keep.getD k false = true then l.getD k ⟨#[]⟩ else wantL l keep k
theorem ordD_succ (l : List ByteArray) (k : Nat) (hk : k < l.length) : ordD l (k + 1) = writeD (ordD l k) (0, 2) l[k] := by
  unfold ordD
  rw [List.take_succ_eq_append_getElem hk, List.foldl_append]
  rfl
theorem ordD_is (l : List ByteArray) : ∀ k, k ≤ l.length → (∀ s ∈ l.take k, s.size ≤ 1024) → (∀ dev, devSize (ordD l k) dev = devSize (newD 5 5) dev) ∧ (∀ dev, devLost (ordD l k) dev = devLost (newD 5 5) dev) ∧
    (ordD l k).s0.has = List.replicate 5 emp ∧ (ordD l k).s1.has = List.replicate 5 emp ∧ (ordD l k).waits = (l.take k).map fun s => ((0, 2), s)
  | 0, _, _ => ⟨fun _ => rfl, fun _ => rfl, rfl, rfl, rfl⟩
  | k + 1, hk, hs => by
    obtain ⟨h1, h2, h3, h4, h5⟩ := ordD_is l k (by omega) (fun s h => hs s (by rw [List.take_succ_eq_append_getElem (by omega)]; exact List.mem_append_left _ h))
    have hsz : l[k].size ≤ 1024 := hs _ (take_mem l k (by omega))
    rw [ordD_succ l k (by omega)]
    have hc : chkD (ordD l k) (0, 2) l[k].size = 0 := by
      rw [chkD_congr _ _ h1 h2]
      unfold chkD
      rw [if_neg (by
        have : devSize (newD 5 5) 0 = 5 := rfl
        simp only
        omega)]
      rfl
    refine ⟨fun dev => by rw [size_writeD, h1], fun dev => by rw [lost_writeD, h2], by rw [(writeD_has _ _ _).1, h3], by rw [(writeD_has _ _ _).2, h4], ?_⟩
    rw [writeD_waits, if_pos hc, h5, List.take_succ_eq_append_getElem (by omega), List.map_append]
    rfl
theorem want_has (l : List ByteArray) (keep : List Bool) (d : DevD) (h1 : ∀ dev, devSize d dev = devSize (newD 5 5) dev) (h3 : d.s0.has = List.replicate 5 emp) (h5 : d.waits = l.map fun s => ((0, 2), s)) :
    ∀ k, k ≤ l.length → hasAt (foldHas d (keptN d.waits keep k)) (0, 2) = wantL l keep k
  | 0, _ => by
    show hasAt d (0, 2) = _
    unfold hasAt sideOf
    simp only [if_true]
    rw [h3]
    rfl
  | k + 1, hk => by
    have ih := want_has l keep d h1 h3 h5 k (by omega)
    have hwl : k < d.waits.length := by rw [h5, List.length_map]; omega
    have hlo : ∀ d' : DevD, (∀ dev, devSize d' dev = devSize d dev) → locOk d' (0, 2) := fun d' hd => by
      unfold locOk
      rw [hd, h1]
      exact ⟨.inl rfl, by decide, by decide⟩
    unfold wantL
    by_cases hq : keep.getD k false = true
    · rw [if_pos hq, keptN_yes _ _ _ hwl hq, foldHas_snoc]
      have hx : d.waits[k] = ((0, 2), l[k]) := by simp [h5]
      rw [hx, hasAt_set _ _ _ _ (hlo _ (size_foldHas _ · d)) (hlo _ (size_foldHas _ · d)), if_pos rfl, List.getD, List.getElem?_eq_getElem (by omega)]
      rfl
    · rw [if_neg hq, keptN_no _ _ _ (by simpa using hq), ih]
theorem ord_tell (l : List ByteArray) (keep : List Bool) (hs : ∀ s ∈ l, s.size ≤ 1024) : chkD (crashD (ordD l l.length) keep) (0, 2) 0 = 0 ∧ tellD (crashD (ordD l l.length) keep) (0, 2) = wantL l keep l.length := by
  obtain ⟨h1, h2, h3, h4, h5⟩ := ordD_is l l.length (Nat.le_refl _) (by rw [List.take_of_length_le (Nat.le_refl _)]; exact hs)
  rw [List.take_of_length_le (Nat.le_refl _)] at h5
  have hc : chkD (ordD l l.length) (0, 2) 0 = 0 := by
    rw [chkD_congr _ _ h1 h2]
    decide
  refine ⟨?_, ?_⟩
  · exact (chkD_congr _ _ (size_endD _ _) (lost_endD _ _)).trans hc
  · show tellD (endD _ _) _ = _
    rw [tell_endD _ _ _ hc]
    have h6 := want_has l keep _ h1 h3 h5 l.length (Nat.le_refl _)
    rw [← h6]
    unfold keptL keptN
    rw [h5, List.length_map]
end Go.Proofs.YtonkmffipjdhkaaDoor
