/-
  The reference's newest entry of a place.
-/
import Derived.Test.YtljjcchdhnficaaDoorClogK
import Derived.Test.YtljjcchdhnficaaDoorClogT
import Derived.Test.YtljjcchdhnficaaDoorMg4
import Derived.Test.YtljjcchdhnficaaDoorClogN
namespace Go.Proofs.YtljjcchdhnficaaDoor
open Go.RowKit Go.ChangeShapes Go.WideShapes Go.ChangeAt

abbrev zeroC : CgE := ⟨⟨#[]⟩, ⟨#[]⟩, 0, 0⟩
/-- One entry more: the best number, and its entry. -/
def stN (q t : Int) (s : Int × CgE) (x : CgE) : Int × CgE := if x.pos = t ∧ s.1 ≤ q then (q, x) else s
def blN (t : Int) (s : Int × CgE) (b : Int × List CgE) : Int × CgE := if chkC b.1 b.2 = 0 then b.2.foldl (stN b.1 t) s else s
def newR (l : List (Int × List CgE)) (t : Int) : Int × CgE := l.foldl (blN t) (-1, zeroC)
theorem stN_snoc (q t : Int) (s : Int × CgE) (l : List CgE) (k : Nat) (h : k < l.length) : (l.take (k + 1)).foldl (stN q t) s = stN q t ((l.take k).foldl (stN q t) s) l[k] := by
  rw [List.take_succ_eq_append_getElem h, List.foldl_append]
  rfl
theorem newR_snoc (t : Int) (l : List BkD) (k : Nat) (h : k < l.length) : newR ((l.take (k + 1)).map bkM) t = blN t (newR ((l.take k).map bkM) t) (bkM l[k]) := by
  rw [List.take_succ_eq_append_getElem h, List.map_append]
  unfold newR
  rw [List.foldl_append]
  rfl
/-- The loops of newest: the answer's place, the entry that is the best. -/
structure NwJ (w : World) (g : Nat) (x : CgE) (W : World) : Prop where
  bg : Box W g 53 #[.string ⟨#[]⟩, .string ⟨#[]⟩, .int .i64 0, .int .i64 0]
  bo : Box W (g + 1) 53 #[.string x.key, .string x.sum, .int .i64 x.len, .int .i64 x.pos]
  bl : Below g w W
theorem NwJ.keep {w : World} {g : Nat} {x : CgE} {W W' : World} (h : NwJ w g x W) (hb : Below W.heap.size W W') : NwJ w g x W' :=
  ⟨h.bg.keep hb h.bg.lt, h.bo.keep hb h.bo.lt, h.bl.trans (hb.mono (Nat.le_of_lt h.bg.lt))⟩
theorem NwJ.new (w : World) : NwJ w w.heap.size zeroC ((w.alloc (.cells #[.string ⟨#[]⟩, .string ⟨#[]⟩, .int .i64 0, .int .i64 0] 53)).alloc (.cells #[.string ⟨#[]⟩, .string ⟨#[]⟩, .int .i64 0, .int .i64 0] 53)) := by
  have h2 := Box.new (w.alloc (.cells #[.string ⟨#[]⟩, .string ⟨#[]⟩, .int .i64 0, .int .i64 0] 53)) 53 #[.string ⟨#[]⟩, .string ⟨#[]⟩, .int .i64 0, .int .i64 0]
  rw [size_alloc] at h2
  exact ⟨(Box.new w _ _).alloc _, h2, ((Below.refl _ _).alloc (Nat.le_refl _) _).alloc (by rw [size_alloc]; exact Nat.le_succ _) _⟩
theorem NwJ.put {w : World} {g : Nat} {x : CgE} {W : World} (h : NwJ w g x W) (y : CgE) : NwJ w g y ((((W.setCell ⟨g + 1, 0, none⟩ (.string y.key)).setCell ⟨g + 1, 1, none⟩ (.string y.sum)).setCell ⟨g + 1, 2, none⟩ (.int .i64 y.len)).setCell ⟨g + 1, 3, none⟩ (.int .i64 y.pos)) := by
  have hn : ∀ (V : World) (j : Nat) (v : Value), (V.setCell ⟨g + 1, j, none⟩ v).heap[g]? = V.heap[g]? := fun V j v => heap_setCell_other V ⟨g + 1, j, none⟩ g v (by show g ≠ g + 1; omega)
  exact ⟨h.bg.of (by rw [hn, hn, hn, hn]), (((h.bo.set 0 _).set 1 _).set 2 _).set 3 _, (((h.bl.setCell (p := ⟨g + 1, 0, none⟩) (Nat.le_succ _) _).setCell (p := ⟨g + 1, 1, none⟩) (Nat.le_succ _) _).setCell (p := ⟨g + 1, 2, none⟩) (Nat.le_succ _) _).setCell (p := ⟨g + 1, 3, none⟩) (Nat.le_succ _) _⟩
theorem sizeRE : (Tryd.prog.info? 53).map (·.size) = some 4 := by kernel_rfl

set_option maxRecDepth 100000 in
set_option maxHeartbeats 4000000 in
theorem cnewest_any (a : Option Addr) (cap : Nat) (l : List BkD) (t : Int) (w : World) (h : SlBk w a l) (hl : l.length ≤ 100) (hE : ∀ x ∈ l, x.ents.length ≤ 100) :
    Calls Tryd.prog 45 #[.slice a l.length cap, .int .i64 t] w fun e w' => e = .returned (.tuple #[cgV (newR (l.map bkM) t).2, .bool (decide (0 ≤ (newR (l.map bkM) t).1))]) ∧ Below w.heap.size w w' := by
  have H := Lib.hid h
  have HL := Lib.hid hl
  have HE := Lib.hid hE
  have HN := Lib.hid (NwJ.new w)
  clear h hl hE
  go_enter Tryd.func45, Tryd.ntmps45
  go_wp2
  generalize World.alloc (World.alloc w _) _ = w0 at *
  obtain ⟨g, hg⟩ : ∃ g, g = w.heap.size := ⟨_, rfl⟩
  have HG := Lib.hid hg
  rw [← hg] at HN ⊢
  clear hg
  go_loopw [6, 8] (fun b i wr => ∃ (k : Nat) (s : Int × CgE), k ≤ l.length ∧ i = .int .i64 k ∧ b = .int .i64 s.1 ∧ Hid (s = newR ((l.take k).map bkM) t) ∧ Hid (NwJ w g s.2 wr)) (fun _ i _ => l.length - (RowKit.intOf i).toNat)
  case atStart => exact ⟨0, (-1, zeroC), Nat.zero_le _, rfl, rfl, rfl, HN⟩
  case round =>
    clear HN
    obtain ⟨k, s, hk, rfl, rfl, HS, HJ⟩ := hrel
    by_cases hlt : k < l.length
    · have hk0 : (0 : Int) ≤ (k : Int) := by omega
      have hkl : (k : Int) < (l.length : Int) := by omega
      have hkh : (k : Int) ≤ 100 := by have := HL.out; omega
      have HLT := Lib.hid hlt
      have HSN := Lib.hid (newR_snoc t l k hlt)
      have HEL := Lib.hid (HE.out _ (List.getElem_mem hlt))
      rw [← HS.out] at HSN
      have GET : Hid (∀ W, Below g w W → ∃ b off, a = some ⟨b, off, none⟩ ∧ b < W.heap.size ∧ W.cell? ⟨b, off + k * 2, none⟩ = some (.int .i64 (l[k]).seq) ∧ W.cell? ⟨b, off + k * 2 + 1, none⟩ = some (.slice (l[k]).a (l[k]).ents.length (l[k]).cap) ∧ SlC W (l[k]).a (l[k]).ents) := fun W hb => (H.out.keep (w' := W) (by rw [← HG.out]; exact hb)).get k hlt
      generalize l[k] = x at *
      obtain ⟨q, xa, xc, es⟩ := x
      simp only [bkM] at HSN HEL GET
      clear hlt
      obtain ⟨n1, z⟩ := s
      have HJ0 : Hid (NwJ w g z wr) := HJ
      clear HJ
      go_wp2
      go_loopw [6, 9] (fun b i wr => ∃ (j : Nat) (s : Int × CgE), j ≤ es.length ∧ i = .int .i64 j ∧ b = .int .i64 s.1 ∧ Hid (chkC q es = 0 ∨ j = 0) ∧ Hid (s = (es.take j).foldl (stN q t) (n1, z)) ∧ Hid (NwJ w g s.2 wr)) (fun _ i _ => es.length - (RowKit.intOf i).toNat)
      case atStart => exact ⟨0, (n1, z), Nat.zero_le _, rfl, rfl, .inr rfl, rfl, HJ0⟩
      case round =>
        clear HJ0
        obtain ⟨j, s2, hj, rfl, rfl, HO, HF, HJ⟩ := hrel
        obtain ⟨n2, z2⟩ := s2
        have HJ1 : Hid (NwJ w g z2 wr) := HJ
        clear HJ
        obtain ⟨bb, off, rfl, hbb, e0, e1, hsl⟩ := GET.out wr HJ1.out.bl
        have SL := Lib.hid hsl
        have HBB := Lib.hid hbb
        clear hsl hbb
        by_cases hlj : j < es.length
        · have hj0 : (0 : Int) ≤ (j : Int) := by omega
          have hjl : (j : Int) < (es.length : Int) := by omega
          have hjh : (j : Int) ≤ 100 := by have := HEL.out; omega
          have HLJ := Lib.hid hlj
          go_wp2_with fail
          refine (crcheck_any q xa xc es _ SL.out).mono ?_
          rintro e w2 ⟨rfl, hb⟩
          have HJ2 := Lib.hid (HJ1.out.keep hb)
          have SL2 := Lib.hid (SL.out.keep hb)
          obtain ⟨eb, eo, hae, heb, c0, c1, c2, c3⟩ := SL2.out.get j HLJ.out
          have k0 := (hb.cell (p := ⟨bb, off + k * 2, none⟩) HBB.out).trans e0
          have k1 := (hb.cell (p := ⟨bb, off + k * 2 + 1, none⟩) HBB.out).trans e1
          clear hb e0 e1 HJ1 SL SL2
          rcases chkC_or q es with hc | hc
          · rw [hc]
            have HC := Lib.hid hc
            have HFS := Lib.hid (stN_snoc q t (n1, z) es j HLJ.out)
            rw [← HF.out] at HFS
            clear hc HF HO
            generalize es[j] = y at *
            obtain ⟨yk, ys, yn, yp⟩ := y
            simp only at c0 c1 c2 c3
            subst hae
            by_cases hp : yp = t
            · subst hp
              by_cases hq : n2 ≤ q
              · have HF2 : Hid ((q, (⟨yk, ys, yn, yp⟩ : CgE)) = (es.take (j + 1)).foldl (stN q yp) (n1, z)) := by
                  show _ = _
                  rw [HFS.out]
                  exact (if_pos ⟨rfl, hq⟩).symm
                clear HFS
                have hd : decide (n2 ≤ q) = true := decide_eq_true hq
                clear hq
                have o0 := HJ2.out.bo.cell 0 _ rfl
                have o1 := HJ2.out.bo.cell 1 _ rfl
                have o2 := HJ2.out.bo.cell 2 _ rfl
                have o3 := HJ2.out.bo.cell 3 _ rfl
                have f0 := HJ2.out.bo.free 0
                have f1 := HJ2.out.bo.free 1
                have f2 := HJ2.out.bo.free 2
                have f3 := HJ2.out.bo.free 3
                have HJ3 := Lib.hid (HJ2.out.put ⟨yk, ys, yn, yp⟩)
                clear HJ2
                go_wp2
                go_roundw
                case rel => exact ⟨j + 1, (q, ⟨yk, ys, yn, yp⟩), HLJ.out, by go_num, rfl, .inl HC.out, HF2, HJ3⟩
                case measure => have := HLJ.out; simp [RowKit.intOf]; omega
              · have HF2 : Hid ((n2, z2) = (es.take (j + 1)).foldl (stN q yp) (n1, z)) := by
                  show _ = _
                  rw [HFS.out]
                  exact (if_neg (fun h => hq h.2)).symm
                clear HFS
                have hd : decide (n2 ≤ q) = false := decide_eq_false hq
                clear hq
                go_wp2
                go_roundw
                case rel => exact ⟨j + 1, (n2, z2), HLJ.out, by go_num, rfl, .inl HC.out, HF2, HJ2⟩
                case measure => have := HLJ.out; simp [RowKit.intOf]; omega
            · have HF2 : Hid ((n2, z2) = (es.take (j + 1)).foldl (stN q t) (n1, z)) := by
                show _ = _
                rw [HFS.out]
                exact (if_neg (fun h => hp h.1)).symm
              clear HFS
              have hd : (yp == t) = false := beq_eq_false_iff_ne.2 hp
              clear hp
              go_wp2
              go_roundw
              case rel => exact ⟨j + 1, (n2, z2), HLJ.out, by go_num, rfl, .inl HC.out, HF2, HJ2⟩
              case measure => have := HLJ.out; simp [RowKit.intOf]; omega
          · have hj0' : j = 0 := by
              rcases HO.out with h | h
              · rw [h] at hc; cases hc
              · exact h
            subst hj0'
            have HF2 : Hid ((n2, z2) = newR ((l.take (k + 1)).map bkM) t) := by
              show _ = _
              rw [HSN.out]
              unfold blN
              rw [if_neg (by rw [hc]; decide)]
              exact HF.out
            rw [hc]
            clear hc HF HO HSN c0 c1 c2 c3 heb
            go_wp2
            go_roundw
            case rel => exact ⟨k + 1, (n2, z2), HLT.out, by go_num, rfl, HF2, HJ2⟩
            case measure => have := HLT.out; simp [RowKit.intOf]; omega
        · obtain rfl : j = es.length := by omega
          have HF2 : Hid ((n2, z2) = newR ((l.take (k + 1)).map bkM) t) := by
            show _ = _
            rw [HSN.out, HF.out, List.take_length]
            unfold blN
            split
            · rfl
            · rename_i hne
              rcases HO.out with h | h
              · exact absurd h hne
              · rw [List.eq_nil_of_length_eq_zero h]
                rfl
          clear HF HO HSN hlj SL HBB
          go_wp2
          go_roundw
          case rel => exact ⟨k + 1, (n2, z2), HLT.out, by go_num, rfl, HF2, HJ1⟩
          case measure => have := HLT.out; simp [RowKit.intOf]; omega
    · obtain rfl : k = l.length := by omega
      obtain ⟨n1, z⟩ := s
      have HJ0 : Hid (NwJ w g z wr) := HJ
      rw [List.take_length] at HS
      have hb0 := HJ0.out.bo.cell 0 _ rfl
      have hb1 := HJ0.out.bo.cell 1 _ rfl
      have hb2 := HJ0.out.bo.cell 2 _ rfl
      have hb3 := HJ0.out.bo.cell 3 _ rfl
      have o0 := HJ0.out.bg.cell 0 _ rfl
      have o1 := HJ0.out.bg.cell 1 _ rfl
      have o2 := HJ0.out.bg.cell 2 _ rfl
      have o3 := HJ0.out.bg.cell 3 _ rfl
      have f0 := HJ0.out.bg.free 0
      have f1 := HJ0.out.bg.free 1
      have f2 := HJ0.out.bg.free 2
      have f3 := HJ0.out.bg.free 3
      have HR := Lib.hid ((((HJ0.out.bg.set 0 (.string z.key)).set 1 (.string z.sum)).set 2 (.int .i64 z.len)).set 3 (.int .i64 z.pos))
      have HB := Lib.hid ((((HJ0.out.bl.setCell (p := ⟨g, 0, none⟩) (Nat.le_refl _) (.string z.key)).setCell (p := ⟨g, 1, none⟩) (Nat.le_refl _) (.string z.sum)).setCell (p := ⟨g, 2, none⟩) (Nat.le_refl _) (.int .i64 z.len)).setCell (p := ⟨g, 3, none⟩) (Nat.le_refl _) (.int .i64 z.pos))
      clear HJ0 HJ
      go_wp2
      refine bodyPost_ret (results_cell2 rfl _ _ g 53 _ (0, 0) _ rfl HR.out Tryd.underlying53 rfl sizeRE) rfl ?_
      rw [← HS.out, ← HG.out]
      exact ⟨rfl, HB.out⟩
end Go.Proofs.YtljjcchdhnficaaDoor
