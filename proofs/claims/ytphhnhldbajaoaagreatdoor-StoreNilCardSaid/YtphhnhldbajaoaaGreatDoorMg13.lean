/-
  Texts put together: BlkF, StD.
-/
import Derived.Test.YtphhnhldbajaoaaGreatDoorBlkE
import Derived.RangeFuncBox
import Derived.Maps.AppendAt
import Derived.Test.YtphhnhldbajaoaaGreatDoorMg7
namespace Go.Proofs.YtphhnhldbajaoaaGreatDoor
open Go Go.RowKit Go.Shelf

attribute [local go_sem] Oper.semAt_some

/-- A row of bools of the call's own. -/
def Bs (w : World) (base : Nat) (v : Value) (l : List Bool) : Prop := w.ownsRow base 4 1 v l.length (l.map Value.bool)
theorem Bs.keep {w w' : World} {base : Nat} {v : Value} {l : List Bool} (h : Bs w base v l) (hb : Below w.heap.size w w') : Bs w' base v l := ownsRow_of h fun k _ hlt => hb.block k hlt
theorem Bs.view {w : World} {base : Nat} {v : Value} {l : List Bool} (h : Bs w base v l) : ∃ a cap, v = .slice a l.length cap ∧ Sl w Value.bool a l := by
  rcases h.2 with ⟨rfl, h0⟩ | ⟨g, cap, cur, rfl, hg, hh, _⟩
  · have : l = [] := List.eq_nil_of_length_eq_zero h0
    subst this
    exact ⟨none, 0, rfl, Sl.nil⟩
  · refine ⟨some ⟨g, 0, none⟩, cap, rfl, fun _ => ⟨g, 0, rfl, lt_of_block hh, fun i x hx => ?_⟩⟩
    have hi : i < l.length := (List.getElem?_eq_some_iff.1 hx).1
    rw [Nat.zero_add, World.ownsRow.cellAt h i (by simpa using hi), List.getElem?_map, hx]
    rfl

end Go.Proofs.YtphhnhldbajaoaaGreatDoor

namespace Go.Proofs.YtphhnhldbajaoaaGreatDoor
open Go Go.RowKit Go.ChangeShapes Go.WideShapes Go.ChangeAt

theorem infoBoolS : (Tryz.prog.info? 4).map (fun i => (i.zero, i.size, i.bytes)) = some (some (.bool false), 1, 1) := by kernel_rfl
theorem made_bools (n : Nat) {w1 : World} {g cap : Nat} (h : w1.ownsRow g 4 1 (.slice (some ⟨g, 0, none⟩) n cap) n (madeCells #[Value.bool false] n).toList) : Bs w1 g (.slice (some ⟨g, 0, none⟩) n cap) (List.replicate n false) := by
  have e : (madeCells #[Value.bool false] n).toList = (List.replicate n false).map Value.bool := by
    apply List.ext_getElem
    · simp [size_madeCells]
    · intro i h1 h2
      simp [madeCells, Nat.mod_one]
  unfold Bs
  rw [List.length_replicate, ← e]
  exact h
theorem bs_cell {w : World} {base g cap n : Nat} {l : List Bool} (h : Bs w base (.slice (some ⟨g, 0, none⟩) n cap) l) (hn : l.length = n) (k : Nat) (hk : k < n) : w.cell? ⟨g, k, none⟩ = some (.bool (l.getD k false)) := by
  subst hn
  rw [World.ownsRow.cellAt h k (by omega), List.getElem?_map, List.getD, List.getElem?_eq_getElem hk]
  rfl
theorem bs_free {w : World} {base g cap n : Nat} {l : List Bool} (h : Bs w base (.slice (some ⟨g, 0, none⟩) n cap) l) (k : Nat) : w.frozen? ⟨g, k, none⟩ = false := by
  rcases h.2 with ⟨h', _⟩ | ⟨g', cap', cur, h', _, hg, _⟩
  · simp at h'
  · simp only [Value.slice.injEq, Option.some.injEq, Addr.mk.injEq, and_true] at h'
    obtain ⟨rfl, _⟩ := h'
    simp [World.frozen?, hg]
theorem bs_set {w : World} {base g cap n : Nat} {l : List Bool} (h : Bs w base (.slice (some ⟨g, 0, none⟩) n cap) l) (hn : l.length = n) (k : Nat) (b : Bool) : Bs (w.setCell ⟨g, k, none⟩ (.bool b)) base (.slice (some ⟨g, 0, none⟩) n cap) (l.set k b) := by
  subst hn
  have := (World.ownsRow.stored h k (Value.bool b)).1
  unfold Bs
  rw [List.length_set, List.map_set]
  exact this
/-- The sectors of the ring and of the second cache, as far as place k. -/
def tkA (e : Int) (n k : Nat) : List Bool := (List.range n).map (fun i => decide (i < k) && (decide (i < 4) || decide (e ≤ (i : Int))))
theorem tkA_len (e : Int) (n k : Nat) : (tkA e n k).length = n := by unfold tkA; rw [List.length_map, List.length_range]
theorem tkA_nil (e : Int) (n : Nat) : tkA e n 0 = List.replicate n false := by
  unfold tkA
  apply List.ext_getElem
  · simp
  · intro i h1 h2; simp
theorem tkA_set (e : Int) (n k : Nat) : (tkA e n k).set k (decide (k < 4) || decide (e ≤ (k : Int))) = tkA e n (k + 1) := by
  unfold tkA
  apply List.ext_getElem
  · simp
  · intro i h1 h2
    rw [List.getElem_set]
    by_cases h : k = i
    · subst h; simp
    · rw [if_neg h]
      simp only [List.getElem_map, List.getElem_range]
      have : decide (i < k + 1) = decide (i < k) := decide_eq_decide.2 (by omega)
      rw [this]
def setU (side : Int) (L : List Bool) (u : Int × Int) : List Bool := if u.1 = side then L.set u.2.toNat true else L
theorem setU_len (side : Int) (L : List Bool) (u : Int × Int) : (setU side L u).length = L.length := by
  unfold setU
  split
  · exact List.length_set
  · rfl
theorem setUs_len (side : Int) : ∀ (l : List (Int × Int)) (L : List Bool), (l.foldl (setU side) L).length = L.length
  | [], _ => rfl
  | u :: r, L => by rw [List.foldl_cons, setUs_len side r, setU_len]
theorem foldl_take {side : Int} {l : List (Int × Int)} {j : Nat} (hj : j < l.length) (L : List Bool) : (l.take (j + 1)).foldl (setU side) L = setU side ((l.take j).foldl (setU side) L) l[j] := by
  rw [List.take_succ_eq_append_getElem hj, List.foldl_append]; rfl
/-- Where the sectors end that may be taken. -/
def endS (x : StoV) (d : DevD) (side : Int) : Int := if side = 1 then (devSize d side : Int) - regionS x d else devSize d side
def takenS (x : StoV) (d : DevD) (side : Int) (used : List (Int × Int)) : List Bool := used.foldl (setU side) (tkA (endS x d side) (devSize d side) (devSize d side))
section
variable {B : Nat} {P : List Nat → World → Prop} {s : Nat} {x : StoV} {d : DevD} {w : World}
set_option maxRecDepth 100000 in
set_option maxHeartbeats 8000000 in
theorem staken_any (hP : Fixed P) (h : StoB w s x) (ho : One B P x.db d w) (side : Int) (hs : side = 0 ∨ side = 1) (hz : ∀ t, devSize d t ≤ 512) (a : Option Addr) (cap : Nat) (l : List (Int × Int)) (hl : l.length ≤ 1000) (hu : SlP w a l) (hn : ∀ u ∈ l, nowhS d u = false) (hsec : -1000000 ≤ x.pol.second ∧ x.pol.second ≤ 1000000) :
    Calls Tryz.prog 60 #[.pointer (some ⟨s, 0, none⟩), .int .i64 side, .slice a l.length cap] w fun e w' => ∃ v, e = .returned v ∧ Bs w' w.heap.size v (takenS x d side l) ∧ Below w.heap.size w w' := by
  have c0 : w.cell? ⟨s, 0, none⟩ = some (.pointer (some ⟨x.db, 0, none⟩)) := h.cell 0 _ rfl
  have HX : Hid (∀ W, Below w.heap.size w W → StoB W s x ∧ One B P x.db d W) := fun W hb => ⟨h.keep hb h.lt, ho.keep hP hb⟩
  have HU := Lib.hid hu
  have HN := Lib.hid hn
  have HD := Lib.hid (one_size ho side)
  have HZ := Lib.hid hz
  obtain ⟨R, hR⟩ : ∃ R, R = takenS x d side l := ⟨_, rfl⟩
  rw [← hR]
  obtain ⟨PS, hPS⟩ : ∃ PS : Ending → World → Prop, PS = fun e w' => ∃ v, e = .returned v ∧ Bs w' w.heap.size v R ∧ Below w.heap.size w w' := ⟨_, rfl⟩
  have hgoal : Calls Tryz.prog 60 #[.pointer (some ⟨s, 0, none⟩), .int .i64 side, .slice a l.length cap] w PS := by
    have HPS := Lib.hid hPS
    have HRR := Lib.hid hR
    have HRG : Hid (-1000000 ≤ regionS x d ∧ regionS x d ≤ 1000000) := by
      show _ ∧ _
      unfold regionS
      split
      · omega
      · exact hsec
    clear h ho hR hPS hu hn
    obtain ⟨i0, hi, hz0, hz1, hz2⟩ := info_parts infoBoolS
    obtain ⟨n, hnn⟩ : ∃ n, n = devSize d side := ⟨_, rfl⟩
    have hn5 : n ≤ 512 := by rw [hnn]; exact hz side
    have HNN := Lib.hid hnn
    rw [← hnn] at HD
    clear hnn hz
    go_enter Tryz.func60, Tryz.ntmps60
    go_wp2_with fail
    refine HD.out.mono ?_
    rintro e w1 ⟨rfl, rfl⟩
    go_wp2_with (at_make; refine wpList_make_full _ rfl _ _ 113 rfl w.heap.size 4 i0 (.bool false) 1 Tryz.underlying113 hi hz0 hz1 .i64 .i64 n n n rfl rfl rfl rfl (by rw [hz2]; omega) (by unfold maxLen; omega) (Nat.le_refl _) ?_)
    intro w1 hown hg
    have hbuf := made_bools n hown
    rw [← tkA_nil (endS x d side)] at hbuf
    have hbel : Below w.heap.size w w1 := (Below.refl _ _).grown hg (Nat.le_refl _) (fun k hk => by cases hk)
    have HB := Lib.hid hbuf
    have HL := Lib.hid hbel
    clear hown hg hbuf hbel hi hz0 hz1 hz2 c0
    rcases hs with rfl | rfl
    · go_wp2_with fail
      have HEN : Hid ((n : Int) = endS x d 0) := by show _ = _; rw [HNN.out]; rfl
      rw [← HEN.out] at HB
      clear HRG
      go_loopw [29] (fun iv wr => ∃ k : Nat, k ≤ n ∧ iv = .int .i64 k ∧ Hid (Bs wr w.heap.size (.slice (some ⟨w.heap.size, 0, none⟩) n n) (tkA (n : Int) n k)) ∧ Hid (Below w.heap.size w wr)) (fun iv _ => ((n : Int) - RowKit.intOf iv).toNat)
      case atStart => exact ⟨0, Nat.zero_le _, rfl, HB, HL⟩
      case round =>
        clear HB HL
        rename_i hkk
        obtain ⟨k, hk, rfl, HB, HL⟩ := hrel
        by_cases hlt : k < n
        · clear hkk
          have h0k : (0 : Int) ≤ (k : Int) := by omega
          have h1k : (k : Int) < (n : Int) := by omega
          have f0 := bs_free HB.out k
          have g0 := bs_cell HB.out (tkA_len (n : Int) n k) k hlt
          have HST := Lib.hid (bs_set HB.out (tkA_len (n : Int) n k) k (decide (k < 4) || decide ((n : Int) ≤ (k : Int))))
          rw [tkA_set] at HST
          have HBL : Hid (∀ b, Below w.heap.size w (wr.setCell ⟨w.heap.size, k, none⟩ (.bool b))) := fun b => ((Chg.of HL.out (Nat.le_refl _) (S := [])).set w.heap.size k _ (.inr (Nat.le_refl _))).below (Nat.le_refl _) (fun _ h => by cases h)
          by_cases h4 : k < 4
          · have d4 : decide ((k : Int) < 4) = true := decide_eq_true (by omega)
            rw [decide_eq_true h4, Bool.true_or] at HST
            have HB2 := Lib.hid (HBL.out true)
            clear HBL h4
            go_wp2_with fail
            go_roundw
            case rel => exact ⟨k + 1, by omega, by go_num, HST, HB2⟩
            case measure => simp [RowKit.intOf]; omega
          · have d4 : decide ((k : Int) < 4) = false := decide_eq_false (by omega)
            rw [decide_eq_false h4, Bool.false_or, show decide ((n : Int) ≤ (k : Int)) = decide (n ≤ k) from decide_eq_decide.2 (by omega)] at HST
            have HB2 := Lib.hid (HBL.out (decide (n ≤ k)))
            clear HBL h4
            go_wp2_with fail
            go_roundw
            case rel => exact ⟨k + 1, by omega, by go_num, HST, HB2⟩
            case measure => simp [RowKit.intOf]; omega
        · have hkn : k = n := by omega
          have HB1 : Hid (Bs wr w.heap.size (.slice (some ⟨w.heap.size, 0, none⟩) n n) ((l.take 0).foldl (setU 0) (tkA (n : Int) n n))) := by have := HB.out; rw [hkn] at this; exact this
          clear HB hkn
          go_wp2_with fail
          go_loopw [45] (fun iv wr => ∃ j : Nat, j ≤ l.length ∧ iv = .int .i64 j ∧ Hid (Bs wr w.heap.size (.slice (some ⟨w.heap.size, 0, none⟩) n n) ((l.take j).foldl (setU 0) (tkA (n : Int) n n))) ∧ Hid (Below w.heap.size w wr)) (fun iv _ => ((l.length : Int) - RowKit.intOf iv).toNat)
          case atStart => exact ⟨0, Nat.zero_le _, rfl, HB1, HL⟩
          case round =>
            clear HB1 HL
            rename_i hjj
            obtain ⟨j, hj, rfl, HB, HL⟩ := hrel
            by_cases hlj : j < l.length
            · clear hjj
              obtain ⟨b, off, rfl, hb, hc0, hc1⟩ := (HU.out.keep HL.out).get j hlj
              have h0j : (0 : Int) ≤ (j : Int) := by omega
              have h1j : (j : Int) < (l.length : Int) := by omega
              have HFT := Lib.hid (foldl_take (side := 0) hlj (tkA (n : Int) n n))
              have HNU := Lib.hid (HN.out l[j] (List.getElem_mem hlj))
              generalize l[j] = u at *
              obtain ⟨u1, u2⟩ := u
              have HLN : Hid (((l.take j).foldl (setU 0) (tkA (n : Int) n n)).length = n) := by show _ = _; rw [setUs_len, tkA_len]
              obtain ⟨gb, hgb⟩ : ∃ gb, gb = wr.heap.size := ⟨_, rfl⟩
              obtain ⟨wa, hwa⟩ : ∃ wa, wa = wr.alloc (.cells #[.int .i64 u1, .int .i64 u2] 47 (0, 0)) := ⟨_, rfl⟩
              have hba : Below wr.heap.size wr wa := by rw [hwa]; exact (Below.refl _ _).alloc (Nat.le_refl _) _
              have HBX : Hid (Box wa gb 47 #[.int .i64 u1, .int .i64 u2]) := by show Box _ _ _ _; rw [hwa, hgb]; exact Box.new _ _ _
              have b0 : wa.cell? ⟨gb, 0, none⟩ = some (.int .i64 u1) := HBX.out.cell 0 _ rfl
              have b1 : wa.cell? ⟨gb, 1, none⟩ = some (.int .i64 u2) := HBX.out.cell 1 _ rfl
              have HB2 := Lib.hid (HB.out.keep hba)
              have HL2 := Lib.hid (HL.out.trans (hba.mono HL.out.size))
              have hwa2 := hwa.symm
              have hgb2 := hgb.symm
              clear hwa hgb hba HB HL
              by_cases h1 : u1 = 0
              · have d1 : (u1 == (0 : Int)) = true := by simp [h1]
                have h5 := HNU.out
                unfold nowhS at h5
                rw [Bool.or_eq_false_iff] at h5
                have h6 := of_decide_eq_false h5.1
                have h7 := of_decide_eq_false h5.2
                rw [h1, ← HNN.out] at h7
                obtain ⟨q, rfl⟩ : ∃ q : Nat, u2 = q := ⟨u2.toNat, by omega⟩
                have hq : q < n := by omega
                have h0q : (0 : Int) ≤ (q : Int) := by omega
                have h1q : (q : Int) < (n : Int) := by omega
                have f0 := bs_free HB2.out q
                have g0 := bs_cell HB2.out HLN.out q hq
                have HST := Lib.hid (bs_set HB2.out HLN.out q true)
                have HSE : Hid (setU 0 ((l.take j).foldl (setU 0) (tkA (n : Int) n n)) (u1, (q : Int)) = ((l.take j).foldl (setU 0) (tkA (n : Int) n n)).set q true) := by show _ = _; unfold setU; rw [if_pos h1]; rfl
                rw [← HSE.out, ← HFT.out] at HST
                have HB3 : Hid (Below w.heap.size w (wa.setCell ⟨w.heap.size, q, none⟩ (.bool true))) := ((Chg.of HL2.out (Nat.le_refl _) (S := [])).set w.heap.size q _ (.inr (Nat.le_refl _))).below (Nat.le_refl _) (fun _ h => by cases h)
                clear h5 h6 h7 h1
                go_wp2_with fail
                go_roundw
                case rel => exact ⟨j + 1, by omega, by go_num, HST, HB3⟩
                case measure => simp [RowKit.intOf]; omega
              · have d1 : (u1 == (0 : Int)) = false := by rw [beq_eq_false_iff_ne]; exact h1
                have HSE : Hid (setU 0 ((l.take j).foldl (setU 0) (tkA (n : Int) n n)) (u1, u2) = (l.take j).foldl (setU 0) (tkA (n : Int) n n)) := by show _ = _; unfold setU; rw [if_neg h1]
                have HST : Hid (Bs wa w.heap.size (.slice (some ⟨w.heap.size, 0, none⟩) n n) ((l.take (j + 1)).foldl (setU 0) (tkA (n : Int) n n))) := by show Bs _ _ _ _; rw [HFT.out, HSE.out]; exact HB2.out
                clear h1
                go_wp2_with fail
                go_roundw
                case rel => exact ⟨j + 1, by omega, by go_num, HST, HL2⟩
                case measure => simp [RowKit.intOf]; omega
            · have hjl : j = l.length := by omega
              have HF : Hid (Bs wr w.heap.size (.slice (some ⟨w.heap.size, 0, none⟩) n n) R) := by
                have h5 := HB.out
                rw [hjl, List.take_length, HEN.out] at h5
                show Bs _ _ _ _
                rw [HRR.out]
                unfold takenS
                rw [← HNN.out]
                exact h5
              clear hjl
              go_wp2
              rw [HPS.out]
              exact ⟨_, rfl, HF.out, HL.out⟩
    · go_wp2_with fail
      refine (sregion_any (HX.out _ HL.out).1 (HX.out _ HL.out).2 (by have := HZ.out 1; omega)).mono ?_
      rintro e9 w9 ⟨rfl, rfl⟩
      obtain ⟨r, hr⟩ : ∃ r, r = regionS x d := ⟨_, rfl⟩
      rw [← hr]
      have hrg := HRG.out
      rw [← hr] at hrg
      obtain ⟨e, he⟩ : ∃ e : Int, e = (n : Int) - r := ⟨_, rfl⟩
      have HE := Lib.hid he
      have HRX := Lib.hid hr
      clear he hr
      go_wp2_with fail
      rw [← HE.out]
      have HEN : Hid (e = endS x d 1) := by show _ = _; rw [HE.out, HRX.out, HNN.out]; rfl
      rw [← HEN.out] at HB
      clear HRG
      go_loopw [29] (fun iv wr => ∃ k : Nat, k ≤ n ∧ iv = .int .i64 k ∧ Hid (Bs wr w.heap.size (.slice (some ⟨w.heap.size, 0, none⟩) n n) (tkA e n k)) ∧ Hid (Below w.heap.size w wr)) (fun iv _ => ((n : Int) - RowKit.intOf iv).toNat)
      case atStart => exact ⟨0, Nat.zero_le _, rfl, HB, HL⟩
      case round =>
        clear HB HL
        rename_i hkk
        obtain ⟨k, hk, rfl, HB, HL⟩ := hrel
        by_cases hlt : k < n
        · clear hkk
          have h0k : (0 : Int) ≤ (k : Int) := by omega
          have h1k : (k : Int) < (n : Int) := by omega
          have f0 := bs_free HB.out k
          have g0 := bs_cell HB.out (tkA_len e n k) k hlt
          have HST := Lib.hid (bs_set HB.out (tkA_len e n k) k (decide (k < 4) || decide (e ≤ (k : Int))))
          rw [tkA_set] at HST
          have HBL : Hid (∀ b, Below w.heap.size w (wr.setCell ⟨w.heap.size, k, none⟩ (.bool b))) := fun b => ((Chg.of HL.out (Nat.le_refl _) (S := [])).set w.heap.size k _ (.inr (Nat.le_refl _))).below (Nat.le_refl _) (fun _ h => by cases h)
          by_cases h4 : k < 4
          · have d4 : decide ((k : Int) < 4) = true := decide_eq_true (by omega)
            rw [decide_eq_true h4, Bool.true_or] at HST
            have HB2 := Lib.hid (HBL.out true)
            clear HBL h4
            go_wp2_with fail
            go_roundw
            case rel => exact ⟨k + 1, by omega, by go_num, HST, HB2⟩
            case measure => simp [RowKit.intOf]; omega
          · have d4 : decide ((k : Int) < 4) = false := decide_eq_false (by omega)
            rw [decide_eq_false h4, Bool.false_or] at HST
            have HB2 := Lib.hid (HBL.out (decide (e ≤ (k : Int))))
            clear HBL h4
            go_wp2_with fail
            go_roundw
            case rel => exact ⟨k + 1, by omega, by go_num, HST, HB2⟩
            case measure => simp [RowKit.intOf]; omega
        · have hkn : k = n := by omega
          have HB1 : Hid (Bs wr w.heap.size (.slice (some ⟨w.heap.size, 0, none⟩) n n) ((l.take 0).foldl (setU 1) (tkA e n n))) := by have := HB.out; rw [hkn] at this; exact this
          clear HB hkn
          go_wp2_with fail
          go_loopw [45] (fun iv wr => ∃ j : Nat, j ≤ l.length ∧ iv = .int .i64 j ∧ Hid (Bs wr w.heap.size (.slice (some ⟨w.heap.size, 0, none⟩) n n) ((l.take j).foldl (setU 1) (tkA e n n))) ∧ Hid (Below w.heap.size w wr)) (fun iv _ => ((l.length : Int) - RowKit.intOf iv).toNat)
          case atStart => exact ⟨0, Nat.zero_le _, rfl, HB1, HL⟩
          case round =>
            clear HB1 HL
            rename_i hjj
            obtain ⟨j, hj, rfl, HB, HL⟩ := hrel
            by_cases hlj : j < l.length
            · clear hjj
              obtain ⟨b, off, rfl, hb, hc0, hc1⟩ := (HU.out.keep HL.out).get j hlj
              have h0j : (0 : Int) ≤ (j : Int) := by omega
              have h1j : (j : Int) < (l.length : Int) := by omega
              have HFT := Lib.hid (foldl_take (side := 1) hlj (tkA e n n))
              have HNU := Lib.hid (HN.out l[j] (List.getElem_mem hlj))
              generalize l[j] = u at *
              obtain ⟨u1, u2⟩ := u
              have HLN : Hid (((l.take j).foldl (setU 1) (tkA e n n)).length = n) := by show _ = _; rw [setUs_len, tkA_len]
              obtain ⟨gb, hgb⟩ : ∃ gb, gb = wr.heap.size := ⟨_, rfl⟩
              obtain ⟨wa, hwa⟩ : ∃ wa, wa = wr.alloc (.cells #[.int .i64 u1, .int .i64 u2] 47 (0, 0)) := ⟨_, rfl⟩
              have hba : Below wr.heap.size wr wa := by rw [hwa]; exact (Below.refl _ _).alloc (Nat.le_refl _) _
              have HBX : Hid (Box wa gb 47 #[.int .i64 u1, .int .i64 u2]) := by show Box _ _ _ _; rw [hwa, hgb]; exact Box.new _ _ _
              have b0 : wa.cell? ⟨gb, 0, none⟩ = some (.int .i64 u1) := HBX.out.cell 0 _ rfl
              have b1 : wa.cell? ⟨gb, 1, none⟩ = some (.int .i64 u2) := HBX.out.cell 1 _ rfl
              have HB2 := Lib.hid (HB.out.keep hba)
              have HL2 := Lib.hid (HL.out.trans (hba.mono HL.out.size))
              have hwa2 := hwa.symm
              have hgb2 := hgb.symm
              clear hwa hgb hba HB HL
              by_cases h1 : u1 = 1
              · have d1 : (u1 == (1 : Int)) = true := by simp [h1]
                have h5 := HNU.out
                unfold nowhS at h5
                rw [Bool.or_eq_false_iff] at h5
                have h6 := of_decide_eq_false h5.1
                have h7 := of_decide_eq_false h5.2
                rw [h1, ← HNN.out] at h7
                obtain ⟨q, rfl⟩ : ∃ q : Nat, u2 = q := ⟨u2.toNat, by omega⟩
                have hq : q < n := by omega
                have h0q : (0 : Int) ≤ (q : Int) := by omega
                have h1q : (q : Int) < (n : Int) := by omega
                have f0 := bs_free HB2.out q
                have g0 := bs_cell HB2.out HLN.out q hq
                have HST := Lib.hid (bs_set HB2.out HLN.out q true)
                have HSE : Hid (setU 1 ((l.take j).foldl (setU 1) (tkA e n n)) (u1, (q : Int)) = ((l.take j).foldl (setU 1) (tkA e n n)).set q true) := by show _ = _; unfold setU; rw [if_pos h1]; rfl
                rw [← HSE.out, ← HFT.out] at HST
                have HB3 : Hid (Below w.heap.size w (wa.setCell ⟨w.heap.size, q, none⟩ (.bool true))) := ((Chg.of HL2.out (Nat.le_refl _) (S := [])).set w.heap.size q _ (.inr (Nat.le_refl _))).below (Nat.le_refl _) (fun _ h => by cases h)
                clear h5 h6 h7 h1
                go_wp2_with fail
                go_roundw
                case rel => exact ⟨j + 1, by omega, by go_num, HST, HB3⟩
                case measure => simp [RowKit.intOf]; omega
              · have d1 : (u1 == (1 : Int)) = false := by rw [beq_eq_false_iff_ne]; exact h1
                have HSE : Hid (setU 1 ((l.take j).foldl (setU 1) (tkA e n n)) (u1, u2) = (l.take j).foldl (setU 1) (tkA e n n)) := by show _ = _; unfold setU; rw [if_neg h1]
                have HST : Hid (Bs wa w.heap.size (.slice (some ⟨w.heap.size, 0, none⟩) n n) ((l.take (j + 1)).foldl (setU 1) (tkA e n n))) := by show Bs _ _ _ _; rw [HFT.out, HSE.out]; exact HB2.out
                clear h1
                go_wp2_with fail
                go_roundw
                case rel => exact ⟨j + 1, by omega, by go_num, HST, HL2⟩
                case measure => simp [RowKit.intOf]; omega
            · have hjl : j = l.length := by omega
              have HF : Hid (Bs wr w.heap.size (.slice (some ⟨w.heap.size, 0, none⟩) n n) R) := by
                have h5 := HB.out
                rw [hjl, List.take_length, HEN.out] at h5
                show Bs _ _ _ _
                rw [HRR.out]
                unfold takenS
                rw [← HNN.out]
                exact h5
              clear hjl
              go_wp2
              rw [HPS.out]
              exact ⟨_, rfl, HF.out, HL.out⟩
  rw [hPS] at hgoal
  exact hgoal
end
end Go.Proofs.YtphhnhldbajaoaaGreatDoor
