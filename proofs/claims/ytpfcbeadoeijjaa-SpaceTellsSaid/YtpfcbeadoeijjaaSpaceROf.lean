/-
  Contracts of package space: Of; its reference.
-/
import Derived.Test.YtpfcbeadoeijjaaSpaceOf
import Derived.Deep.RegionHeld3
import Derived.Deep.QuietTactic
import Derived.BigQuiet
namespace Go.Proofs.Ytpfcbeadoeijjaa
open Go.RowKit Go.ChangeShapes Go.WideShapes Go.ChangeAt
set_option maxRecDepth 100000 in
set_option maxHeartbeats 2000000 in
theorem rof_any (a : Option Addr) (cap : Nat) (u : List Bool) (w : World) (h : Sl w Value.bool a u) (hl : u.length ≤ 1000) :
    Calls Try.prog 19 #[.slice a u.length cap] w fun e w' => ∃ v, e = .returned v ∧ Prs 39 w' w.heap.size v (ofL u) ∧ Below w.heap.size w w' := by
  have H := Lib.hid h
  clear h
  go_enter Try.func19, Try.ntmps19
  go_wp2
  go_loopw [3, 4] (fun s i wr => ∃ (k : Nat) (v : Value), k ≤ u.length ∧ i = .int .i64 k ∧ v = s ∧ Hid (Prs 39 wr w.heap.size v (ofTo u k)) ∧ Hid (Below w.heap.size w wr)) (fun _ i _ => u.length - (intOf i).toNat)
  case atStart => exact ⟨0, _, Nat.zero_le _, rfl, rfl, Prs.nil _ _ _, Below.refl _ _⟩
  case round =>
    obtain ⟨k, v, hk, rfl, rfl, HP, HL⟩ := hrel
    by_cases hlt : k < u.length
    · obtain ⟨b, off, rfl, hb, hc⟩ := H.out (by intro e; rw [e] at hlt; simp at hlt)
      have q0 : wr.cell? ⟨b, off + k, none⟩ = some (.bool u[k]) := by rw [HL.out.cell (p := ⟨b, off + k, none⟩) hb]; exact hc k _ (List.getElem?_eq_getElem hlt)
      have HST : Hid (ofTo u (k + 1) = ofStep (ofTo u k) k u[k]) := by show _ = _; rw [ofTo]; simp [List.getD, List.getElem?_eq_getElem hlt]
      obtain ⟨hlow, hlen⟩ := ofTo_low u k
      have HLOW := Lib.hid hlow
      have hk0 : (0 : Int) ≤ (k : Int) := by omega
      have hkl : (k : Int) < (u.length : Int) := by omega
      have hkk : (k : Int) ≤ 1000 := by omega
      have HPV := Lib.hid (of_last u k)
      generalize ofTo u k = acc at *
      generalize u[k] = is at *
      clear hlow
      cases is
      · cases k with
        | zero =>
          have HS := Lib.hid (ofStep_n (k := ((0 : Nat) : Int)) (acc := acc) (by intro h; have := HPV.out.1 h; omega))
          clear hc
          rw [Nat.add_zero] at q0
          have BX := Lib.hid (Box.new wr 39 #[.int .i64 ((0 : Nat) : Int), .int .i64 1])
          have ha := (Below.refl wr.heap.size wr).alloc (Nat.le_refl _) (.cells #[.int .i64 ((0 : Nat) : Int), .int .i64 1] 39 (0, 0))
          have HP2 := Lib.hid (HP.out.keep ha)
          have HL2 := Lib.hid (HL.out.trans (ha.mono HL.out.size))
          obtain ⟨vb, n, cp, hv⟩ : ∃ vb n cp, v = .slice vb n cp := by
            rcases HP.out.view with ⟨rfl, _⟩ | ⟨g, cp, rfl, _⟩
            · exact ⟨_, _, _, rfl⟩
            · exact ⟨_, _, _, rfl⟩
          subst hv
          clear ha HP HL hb
          go_wp2_with (with_reducible refine wp_prs_app Try.underlying22 two_R _ rfl (.tmp 35) (.tmp 38) rfl w.heap.size _ acc rfl ?a1 ⟨wr.heap.size, 0, none⟩ 1 [(((0 : Nat) : Int), 1)] ?a2 ?a3 ?a4 ?a5 ?a6)
          case a1 => exact HP2.out
          case a2 => rfl
          case a3 => intro j u hj; rw [add_plain, Nat.zero_add]; exact BX.out.cell j u (by simpa [PrV] using hj)
          case a4 => simp; omega
          case a5 => exact HL2.out.size
          intro v' w2 hp hg
          have HP3 := Lib.hid hp
          have HL3 := Lib.hid (below_grow HL2.out hg HP2.out HL2.out.size)
          clear hp hg HP2 HL2 BX
          go_wp2
          go_roundw
          case rel => exact ⟨0 + 1, _, by omega, by go_num, rfl, by show Prs _ _ _ _ _; rw [HST.out, HS.out]; exact HP3.out, HL3⟩
          case measure => simp [intOf]; omega
        | succ m =>
          have q1 : wr.cell? ⟨b, off + m, none⟩ = some (.bool (u.getD m true)) := by
            have hm : m < u.length := by omega
            rw [HL.out.cell (p := ⟨b, off + m, none⟩) hb]
            refine hc m _ ?_
            rw [List.getD, List.getElem?_eq_getElem hm]
            rfl
          have p1 : IntKind.i64.wrap (((m + 1 : Nat) : Int) - 1) = (m : Int) := by rw [IntWalk.i64_in _ ⟨by omega, by omega⟩]; omega
          have p2 : ((m : Int) + 1 - 1) = (m : Int) := by omega
          have p3 : IntKind.i64.wrap ((m : Int) + 1 - 1) = (m : Int) := by rw [IntWalk.i64_in _ ⟨by omega, by omega⟩]; omega
          have p5 : IntKind.i64.wrap (m : Int) = (m : Int) := IntWalk.i64_in _ ⟨by omega, by omega⟩
          have p6 : (m : Int) ≤ 1000 := by omega
          have p7 : (0 : Int) ≤ (m : Int) := by omega
          have p8 : (m : Int) < (u.length : Int) := by omega
          have d4 : decide ((0 : Int) < (m : Int) + 1) = true := decide_eq_true (by omega)
          have hpv := HPV.out
          rw [show m + 1 - 1 = m by omega] at hpv
          have HPV2 := Lib.hid hpv
          clear hpv HPV hc
          cases hpp : u.getD m true
          · have hjoin := HPV2.out.2 ⟨by omega, hpp⟩
            rw [hpp] at q1
            have hla := last_at (acc := acc) hjoin.1
            have HLM := Lib.hid (HLOW.out _ (last_mem (acc := acc) hjoin.1))
            have hsj := @ofStep_j acc ((m + 1 : Nat) : Int) hjoin.1 hjoin.2
            obtain ⟨j, hj⟩ : ∃ j, acc.length = j + 1 := ⟨acc.length - 1, by omega⟩
            rcases HP.out.view with ⟨_, h00⟩ | ⟨g, cp, hv, hc1, hc2, hg0, hgl, hcell⟩
            · rw [h00] at hj; simp at hj
            rw [hj] at hv
            subst hv
            have hjc := slP_flat hgl hcell
            obtain ⟨b2, o2, e2, _, x0, x1⟩ := hjc.get j (by omega)
            injection e2 with e2
            injection e2 with r1 r2
            subst r1 r2
            have hlj : acc[j]'(by omega) = lastR acc := by
              have : j = acc.length - 1 := by omega
              subst this
              exact hla
            rw [hlj] at x1
            have hset : ∀ (hx : j < acc.length) (x : Int), acc.set j ((acc[j]'hx).1, x) = acc.set j ((lastR acc).1, x) := fun hx x => by rw [hlj]
            have hjj : acc.length - 1 = j := by omega
            obtain ⟨y, hy⟩ : ∃ y, lastR acc = y := ⟨_, rfl⟩
            rw [hy] at x1 hsj hset
            have hlm := HLM.out
            rw [hy] at hlm
            obtain ⟨xa, xn⟩ := y
            simp only at x1 hlm hsj hset
            obtain ⟨y0, y1, y2⟩ := hlm
            rw [Nat.zero_add] at x1
            rw [hjj] at hsj
            have HS := Lib.hid hsj
            have HSET := Lib.hid hset
            have HJ := Lib.hid hj
            have e1 : IntKind.i64.wrap (((j + 1 : Nat) : Int) - 1) = (j : Int) := by rw [IntWalk.i64_in _ ⟨by omega, by omega⟩]; omega
            have e2 : ((j : Int) + 1 - 1) = (j : Int) := by omega
            have e3 : IntKind.i64.wrap ((j : Int) + 1 - 1) = (j : Int) := by rw [IntWalk.i64_in _ ⟨by omega, by omega⟩]; omega
            have e5 : IntKind.i64.wrap (j : Int) = (j : Int) := IntWalk.i64_in _ ⟨by omega, by omega⟩
            have e6 : (j : Int) ≤ 1000 := by omega
            have e7 : (0 : Int) ≤ (j : Int) := by omega
            have y4 : xn ≤ 1000 := by omega
            have hcp : j + 1 ≤ cp := by omega
            obtain ⟨cur, hcur⟩ := HP.out.boxed
            have f1 := hcur.free (j * 2 + 1)
            clear hsj hset hy hjj hla hlj hj HLM hcell hc2 hjc HLOW hjoin hpp HPV2 hcur y0 y2 x0 hb
            go_wp2
            go_roundw
            case rel => exact ⟨m + 1 + 1, _, by omega, by go_num, rfl, by
              show Prs _ _ _ _ _
              rw [HST.out, HS.out]
              have h := Prs.setN (l := acc) (cap := cp) (g := g) (by rw [HJ.out]; exact HP.out) j (xn + 1) (by have := HJ.out; omega)
              rw [HSET.out, HJ.out] at h
              exact h, HL.out.setCell (p := ⟨g, j * 2 + 1, none⟩) hg0 _⟩
            case measure => simp [intOf]; omega
          · have HS := Lib.hid (ofStep_n (k := ((m + 1 : Nat) : Int)) (acc := acc) (by intro h; have := HPV2.out.1 h; rw [hpp] at this; simp at this))
            rw [hpp] at q1
            clear hpp HPV2
            have BX := Lib.hid (Box.new wr 39 #[.int .i64 ((m + 1 : Nat) : Int), .int .i64 1])
            have ha := (Below.refl wr.heap.size wr).alloc (Nat.le_refl _) (.cells #[.int .i64 ((m + 1 : Nat) : Int), .int .i64 1] 39 (0, 0))
            have HP2 := Lib.hid (HP.out.keep ha)
            have HL2 := Lib.hid (HL.out.trans (ha.mono HL.out.size))
            obtain ⟨vb, n, cp, hv⟩ : ∃ vb n cp, v = .slice vb n cp := by
              rcases HP.out.view with ⟨rfl, _⟩ | ⟨g, cp, rfl, _⟩
              · exact ⟨_, _, _, rfl⟩
              · exact ⟨_, _, _, rfl⟩
            subst hv
            clear ha HP HL hb
            go_wp2_with (with_reducible refine wp_prs_app Try.underlying22 two_R _ rfl (.tmp 35) (.tmp 38) rfl w.heap.size _ acc rfl ?b1 ⟨wr.heap.size, 0, none⟩ 1 [(((m + 1 : Nat) : Int), 1)] ?b2 ?b3 ?b4 ?b5 ?b6)
            case b1 => exact HP2.out
            case b2 => rfl
            case b3 => intro j u hj; rw [add_plain, Nat.zero_add]; exact BX.out.cell j u (by simpa [PrV] using hj)
            case b4 => simp; omega
            case b5 => exact HL2.out.size
            intro v' w2 hp hg
            have HP3 := Lib.hid hp
            have HL3 := Lib.hid (below_grow HL2.out hg HP2.out HL2.out.size)
            clear hp hg HP2 HL2 BX
            go_wp2
            go_roundw
            case rel => exact ⟨m + 1 + 1, _, by omega, by go_num, rfl, by show Prs _ _ _ _ _; rw [HST.out, HS.out]; exact HP3.out, HL3⟩
            case measure => simp [intOf]; omega
      · have HS := Lib.hid (ofStep_t acc (k : Int))
        go_wp2
        go_roundw
        case rel => exact ⟨k + 1, _, by omega, by go_num, rfl, by show Prs _ _ _ _ _; rw [HST.out, HS.out]; exact HP.out, HL⟩
        case measure => simp [intOf]; omega
    · obtain rfl : k = u.length := by omega
      go_wp2
      go_ret
      exact ⟨_, rfl, HP.out, HL.out⟩
end Go.Proofs.Ytpfcbeadoeijjaa
