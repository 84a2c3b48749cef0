/-
  The reference's devices: Waits.
-/
import Derived.Test.YtflobdhhjfpcdaaRfH
import Derived.Test.YtflobdhhjfpcdaaOwnRows
namespace Go.Proofs.Ytflobdhhjfpcdaa
open Go.RowKit Go.ChangeShapes Go.WideShapes Go.ChangeAt

set_option maxRecDepth 100000 in
set_option maxHeartbeats 4000000 in
theorem rwaits_any (p : RefP) (d : DevD) (w : World) (h : RefAt w p d) (hlen : d.waits.length ≤ 10000) : Calls Try.prog 11 #[.pointer (some ⟨p.b, 0, none⟩)] w fun e w' => ∃ v, e = .returned v ∧ Prs w' w.heap.size v (d.waits.map (·.1)) ∧ Below w.heap.size w w' := by
  have H := Lib.hid h
  have HL := Lib.hid hlen
  clear h hlen
  go_enter Try.func11, Try.ntmps11
  go_wp2
  go_loopw [3, 4] (fun o i wr => ∃ (j : Nat) (v : Value), j ≤ d.waits.length ∧ i = .int .i64 j ∧ v = o ∧ Hid (Prs wr w.heap.size v ((d.waits.take j).map (·.1)) ∧ Below w.heap.size w wr)) (fun _ i _ => d.waits.length - (RowKit.intOf i).toNat)
  case atStart => exact ⟨0, _, Nat.zero_le _, rfl, rfl, Prs.nil _ _, Below.refl _ _⟩
  case round =>
    obtain ⟨j, v, hj, rfl, rfl, HJ⟩ := hrel
    have HR := Lib.hid (H.out.keep HJ.out.2)
    obtain ⟨wa, wc, hwv, hget⟩ := HR.out.wt.view
    have g2 := HR.out.box.cell 2 _ rfl
    rw [hwv] at g2
    by_cases hlt : j < d.waits.length
    · have hj0 : (0 : Int) ≤ (j : Int) := by omega
      have hjl : (j : Int) < (d.waits.length : Int) := by omega
      have hjh : (j : Int) ≤ 10000 := by have := HL.out; omega
      have HLT := Lib.hid hlt
      have HSN : Hid ((d.waits.take (j + 1)).map (·.1) = (d.waits.take j).map (·.1) ++ [(d.waits[j]).1]) := by
        show _ = _
        rw [List.take_succ_eq_append_getElem hlt, List.map_append]
        rfl
      obtain ⟨wg, rfl, _, c0, c1, _⟩ := hget j hlt
      have HLN : Hid (((d.waits.take j).map (·.1)).length ≤ 10000) := by
        show _ ≤ _
        rw [List.length_map, List.length_take]
        have := HL.out
        omega
      generalize d.waits[j] = x at *
      obtain ⟨⟨x1, x2⟩, xs⟩ := x
      dsimp only at c0 c1 HSN
      obtain ⟨t, ht⟩ : ∃ t, t = (d.waits.take j).map (·.1) := ⟨_, rfl⟩
      rw [← ht] at HSN HLN HJ
      clear hlt hget ht HR
      have hz := (Below.refl wr.heap.size wr).alloc (Nat.le_refl _) (.cells #[.int .i64 x1, .int .i64 x2] 29)
      have EB := Lib.hid (Box.new wr 29 #[.int .i64 x1, .int .i64 x2])
      have J3 : Hid (Prs (wr.alloc (.cells #[.int .i64 x1, .int .i64 x2] 29)) w.heap.size v t ∧ Below w.heap.size w (wr.alloc (.cells #[.int .i64 x1, .int .i64 x2] 29))) := ⟨HJ.out.1.keep hz, HJ.out.2.trans (hz.mono HJ.out.2.size)⟩
      clear hz HJ
      go_wp2_with (with_reducible refine wp_prs_push _ rfl (.tmp 14) (.tmp 23) rfl w.heap.size _ t rfl ?a1 ⟨wr.heap.size, 0, none⟩ 1 (x1, x2) ?a2 ?a3 ?a4 ?a5 ?a6)
      case a1 => exact J3.out.1
      try (case a2 => rfl)
      case a3 => intro i u hi; have h3 := EB.out.cell i u (by simpa [PrV] using hi); first | exact h3 | (rw [add_plain, Nat.zero_add]; exact h3) | (simpa using h3)
      case a4 => have := HLN.out; omega
      case a5 => have := J3.out.2.size; rw [size_alloc] at this; first | exact this | (rw [size_alloc]; exact this)
      intro v' wA hpv hgr
      rw [← HSN.out] at hpv
      have JA : Hid (Prs wA w.heap.size v' ((d.waits.take (j + 1)).map (·.1)) ∧ Below w.heap.size w wA) := ⟨hpv, J3.out.2.grown hgr J3.out.2.size (fun k hk => J3.out.1.own_block k hk)⟩
      clear hpv hgr J3 EB g2 c0 c1
      go_wp2
      go_roundw
      case rel => exact ⟨j + 1, _, HLT.out, by go_num, rfl, JA⟩
      case measure => have := HLT.out; simp [RowKit.intOf]; omega
    · obtain rfl : j = d.waits.length := by omega
      rw [List.take_length] at HJ
      clear hget HR
      go_wp2
      go_ret
      exact ⟨_, rfl, HJ.out.1, HJ.out.2⟩
end Go.Proofs.Ytflobdhhjfpcdaa
