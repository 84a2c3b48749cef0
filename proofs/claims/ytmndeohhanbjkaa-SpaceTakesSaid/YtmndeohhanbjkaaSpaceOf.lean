/-
  Contracts of package space: Of; its reference.
-/
import Derived.Test.YtmndeohhanbjkaaSpaceOfA
import Derived.Deep.RegionHeld3
import Derived.Deep.QuietTactic
import Derived.BigQuiet
namespace Go.Proofs.Ytmndeohhanbjkaa
open Go.RowKit Go.ChangeShapes Go.WideShapes Go.ChangeAt

theorem Prs.boxed {e : TypeId} {w : World} {base g n cap : Nat} {l : List (Int × Int)} (h : Prs e w base (.slice (some ⟨g, 0, none⟩) n cap) l) : ∃ cur, Box w g e cur := by
  rcases h.2 with ⟨e0, _⟩ | ⟨g', cap', cur, he, _, hh, _⟩
  · simp at e0
  · injection he with q1 q2 q3
    injection q1 with q1
    injection q1 with q1
    subst q1
    exact ⟨cur, hh⟩
theorem ofStep_t (acc : List (Int × Int)) (k : Int) : ofStep acc k true = acc := by unfold ofStep; rw [if_pos rfl]
theorem ofStep_j {acc : List (Int × Int)} {k : Int} (h : 0 < acc.length) (he : (lastR acc).1 + (lastR acc).2 = k) : ofStep acc k false = acc.set (acc.length - 1) ((lastR acc).1, (lastR acc).2 + 1) := by
  unfold ofStep; rw [if_neg (by simp), if_pos ⟨h, he⟩]
theorem ofStep_n {acc : List (Int × Int)} {k : Int} (h : ¬ (0 < acc.length ∧ (lastR acc).1 + (lastR acc).2 = k)) : ofStep acc k false = acc ++ [(k, 1)] := by
  unfold ofStep; rw [if_neg (by simp), if_neg h]
set_option maxRecDepth 100000 in
set_option maxHeartbeats 2000000 in
theorem of_any (a : Option Addr) (cap : Nat) (u : List Bool) (w : World) (h : Sl w Value.bool a u) (hl : u.length ≤ 1000) :
    Calls Try.prog 18 #[.slice a u.length cap] w fun e w' => ∃ v, e = .returned v ∧ Prs 46 w' w.heap.size v (ofL u) ∧ Below w.heap.size w w' := by
  have H := Lib.hid h
  clear h
  go_enter Try.func18, Try.ntmps18
  go_wp2
  go_loopw [3, 9] (fun s i wr => ∃ (k : Nat) (v : Value), k ≤ u.length ∧ i = .int .i64 k ∧ v = s ∧ Hid (Prs 46 wr w.heap.size v (ofTo u k)) ∧ Hid (Below w.heap.size w wr)) (fun _ i _ => u.length - (intOf i).toNat)
  case atStart => exact ⟨0, _, Nat.zero_le _, rfl, rfl, Prs.nil _ _ _, Below.refl _ _⟩
  case round =>
    obtain ⟨k, v, hk, rfl, rfl, HP, HL⟩ := hrel
    by_cases hlt : k < u.length
    · obtain ⟨b, off, rfl, hb, hc⟩ := H.out (by intro e; rw [e] at hlt; simp at hlt)
      have q0 : wr.cell? ⟨b, off + k, none⟩ = some (.bool u[k]) := by rw [HL.out.cell (p := ⟨b, off + k, none⟩) hb]; exact hc k _ (List.getElem?_eq_getElem hlt)
      have HST : Hid (ofTo u (k + 1) = ofStep (ofTo u k) k u[k]) := by show _ = _; rw [ofTo]; simp [List.getD, List.getElem?_eq_getElem hlt]
      obtain ⟨hlow, hlen⟩ := ofTo_low u k
      have HLOW := Lib.hid hlow
      have hk0 : (0 : Int) ≤ (k : Int) := by omega
      have hkl : (k : Int) < (u.length : Int) := by omega
      have hkk : (k : Int) ≤ 1000 := by omega
      generalize ofTo u k = acc at *
      generalize u[k] = is at *
      clear hlow hc
      cases is
      · by_cases h0 : acc.length = 0
        · have HS := Lib.hid (ofStep_n (k := (k : Int)) (acc := acc) (by omega))
          have ha0 : acc = [] := List.eq_nil_of_length_eq_zero h0
          obtain ⟨vb, n, cp, hv, hn⟩ : ∃ vb n cp, v = .slice vb n cp ∧ n = 0 := by
            rcases HP.out.view with ⟨rfl, _⟩ | ⟨g, cp, rfl, _⟩
            · exact ⟨_, _, _, rfl, rfl⟩
            · exact ⟨_, _, _, rfl, h0⟩
          subst hn
          subst hv
          have BX := Lib.hid (Box.new wr 46 #[.int .i64 k, .int .i64 1])
          have ha := (Below.refl wr.heap.size wr).alloc (Nat.le_refl _) (.cells #[.int .i64 k, .int .i64 1] 46 (0, 0))
          have HP2 := Lib.hid (HP.out.keep ha)
          have HL2 := Lib.hid (HL.out.trans (ha.mono HL.out.size))
          clear ha HP HL hb ha0
          go_wp2_with (with_reducible refine wp_prs_app Try.underlying25 two_S _ rfl (.tmp 37) (.tmp 40) rfl w.heap.size _ acc rfl ?a1 ⟨wr.heap.size, 0, none⟩ 1 [((k : Int), 1)] ?a2 ?a3 ?a4 ?a5 ?a6)
          case a1 => exact HP2.out
          case a2 => rfl
          case a3 => intro j u hj; rw [add_plain, Nat.zero_add]; exact BX.out.cell j u (by simpa [PrV] using hj)
          case a4 => simp; omega
          case a5 => exact HL2.out.size
          intro v' w2 hp hg
          have HP3 := Lib.hid hp
          have HL3 := Lib.hid (below_grow HL2.out hg HP2.out HL2.out.size)
          clear hp hg HP2 HL2 BX
          go_wp2
          go_roundw
          case rel => exact ⟨k + 1, _, by omega, by go_num, rfl, by show Prs _ _ _ _ _; rw [HST.out, HS.out]; exact HP3.out, HL3⟩
          case measure => simp [intOf]; omega
        · obtain ⟨j, hj⟩ : ∃ j, acc.length = j + 1 := ⟨acc.length - 1, by omega⟩
          have hla := last_at (acc := acc) (by omega)
          have HLM := Lib.hid (HLOW.out _ (last_mem (acc := acc) (by omega)))
          rcases HP.out.view with ⟨_, h00⟩ | ⟨g, cp, hv, hc1, hc2, hg0, hgl, hcell⟩
          · exact absurd (by rw [h00]; rfl) h0
          rw [hj] at hv
          subst hv
          have hjc := slP_flat hgl hcell
          obtain ⟨b2, o2, e2, _, x0, x1⟩ := hjc.get j (by omega)
          injection e2 with e2
          injection e2 with r1 r2
          subst r1 r2
          have hlj : acc[j]'(by omega) = lastR acc := by
            have : j = acc.length - 1 := by omega
            subst this
            exact hla
          rw [hlj] at x0 x1
          have hsj := @ofStep_j acc (k : Int) (by omega)
          have hsn := @ofStep_n acc (k : Int)
          have hset : ∀ (hx : j < acc.length) (x : Int), acc.set j ((acc[j]'hx).1, x) = acc.set j ((lastR acc).1, x) := fun hx x => by rw [hlj]
          have HJ := Lib.hid hj
          have hjj : acc.length - 1 = j := by omega
          obtain ⟨y, hy⟩ : ∃ y, lastR acc = y := ⟨_, rfl⟩
          rw [hy] at x0 x1 hsj hsn hset
          have hlm := HLM.out
          rw [hy] at hlm
          obtain ⟨xa, xn⟩ := y
          simp only at x0 x1 hlm hsj hsn hset
          obtain ⟨y0, y1, y2⟩ := hlm
          rw [Nat.zero_add] at x0 x1
          rw [hjj] at hsj
          have HSJ := Lib.hid hsj
          have HSN := Lib.hid hsn
          have HSET := Lib.hid hset
          have HY := Lib.hid hy
          have e1 : IntKind.i64.wrap (((j + 1 : Nat) : Int) - 1) = (j : Int) := by rw [IntWalk.i64_in _ ⟨by omega, by omega⟩]; omega
          have e2 : ((j : Int) + 1 - 1) = (j : Int) := by omega
          have e3 : IntKind.i64.wrap ((j : Int) + 1 - 1) = (j : Int) := by rw [IntWalk.i64_in _ ⟨by omega, by omega⟩]; omega
          have e5 : IntKind.i64.wrap (j : Int) = (j : Int) := IntWalk.i64_in _ ⟨by omega, by omega⟩
          have e6 : (j : Int) ≤ 1000 := by omega
          have e7 : (0 : Int) ≤ (j : Int) := by omega
          have y3 : xa ≤ 1000 := by omega
          have y4 : xn ≤ 1000 := by omega
          have hcp : j + 1 ≤ cp := by omega
          clear hsj hsn hset hy hjj hla hlj hj HLM hcell hc2 hjc HLOW h0
          by_cases he : xa + xn = (k : Int)
          · have hq : ((xa + xn) == (k : Int)) = true := by simp [he]
            have HS := Lib.hid (HSJ.out he)
            clear he
            go_wp2_with fail
            refine (end_any (xa, xn) _ y0 (by simp only; omega) (by simp only; omega) (by simp only; omega)).mono ?_
            rintro e w2 ⟨rfl, hb2⟩
            have HP2 := Lib.hid (HP.out.keep hb2)
            have HL2 := Lib.hid (HL.out.trans (hb2.mono HL.out.size))
            obtain ⟨cur, hcur⟩ := HP2.out.boxed
            have f1 := hcur.free (j * 2 + 1)
            have z1 : w2.cell? ⟨g, j * 2 + 1, none⟩ = some (.int .i64 xn) := by rw [hb2.cell (p := ⟨g, j * 2 + 1, none⟩) hgl]; exact x1
            clear hb2 x0 x1 hcur HP HL hb
            dsimp only
            go_wp2
            go_roundw
            case rel => exact ⟨k + 1, _, by omega, by go_num, rfl, by
              show Prs _ _ _ _ _
              rw [HST.out, HS.out]
              have h := Prs.setN (l := acc) (cap := cp) (g := g) (by rw [HJ.out]; exact HP2.out) j (xn + 1) (by have := HJ.out; omega)
              rw [HSET.out, HJ.out] at h
              exact h, HL2.out.setCell (p := ⟨g, j * 2 + 1, none⟩) hg0 _⟩
            case measure => simp [intOf]; omega
          · have hq : ((xa + xn) == (k : Int)) = false := by simp [he]
            have HS := Lib.hid (HSN.out (fun h => he h.2))
            clear he
            go_wp2_with fail
            refine (end_any (xa, xn) _ y0 (by simp only; omega) (by simp only; omega) (by simp only; omega)).mono ?_
            rintro e w2 ⟨rfl, hb2⟩
            have hp1 := HP.out.keep hb2
            have hl1 := HL.out.trans (hb2.mono HL.out.size)
            have BX := Lib.hid (Box.new w2 46 #[.int .i64 k, .int .i64 1])
            have ha := (Below.refl w2.heap.size w2).alloc (Nat.le_refl _) (.cells #[.int .i64 k, .int .i64 1] 46 (0, 0))
            have HP2 := Lib.hid (hp1.keep ha)
            have HL2 := Lib.hid (hl1.trans (ha.mono hl1.size))
            clear ha HP HL hb hb2 hp1 hl1 x0 x1
            dsimp only
            go_wp2_with (with_reducible refine wp_prs_app Try.underlying25 two_S _ rfl (.tmp 37) (.tmp 40) rfl w.heap.size _ acc rfl ?b1 ⟨w2.heap.size, 0, none⟩ 1 [((k : Int), 1)] ?b2 ?b3 ?b4 ?b5 ?b6)
            case b1 => exact HP2.out
            case b2 => rfl
            case b3 => intro j u hj; rw [add_plain, Nat.zero_add]; exact BX.out.cell j u (by simpa [PrV] using hj)
            case b4 => simp; omega
            case b5 => exact HL2.out.size
            intro v' w2 hp hg
            have HP3 := Lib.hid hp
            have HL3 := Lib.hid (below_grow HL2.out hg HP2.out HL2.out.size)
            clear hp hg HP2 HL2 BX
            go_wp2
            go_roundw
            case rel => exact ⟨k + 1, _, by omega, by go_num, rfl, by show Prs _ _ _ _ _; rw [HST.out, HS.out]; exact HP3.out, HL3⟩
            case measure => simp [intOf]; omega
      · have HS := Lib.hid (ofStep_t acc (k : Int))
        go_wp2
        go_roundw
        case rel => exact ⟨k + 1, _, by omega, by go_num, rfl, by show Prs _ _ _ _ _; rw [HST.out, HS.out]; exact HP.out, HL⟩
        case measure => simp [intOf]; omega
    · obtain rfl : k = u.length := by omega
      go_wp2
      go_ret
      exact ⟨_, rfl, HP.out, HL.out⟩
end Go.Proofs.Ytmndeohhanbjkaa
