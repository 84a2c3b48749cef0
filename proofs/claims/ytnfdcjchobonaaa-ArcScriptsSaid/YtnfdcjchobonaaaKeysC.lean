/-
  Contracts: slices.Index, Contains, Delete and Clone of strings; the reference's Same.
-/
import Derived.Test.YtnfdcjchobonaaaKeys
import Derived.Test.YtnfdcjchobonaaaPlain
import Derived.Deep.QuietTactic
import Derived.BigQuiet
namespace Go.Proofs.Ytnfdcjchobonaaa
open Go.RowKit Go.ChangeShapes Go.WideShapes Go.ChangeAt

theorem toList_inj {s t : ByteArray} (h : s.toList = t.toList) : s = t := by
  rw [ByteArray.toList_eq, ByteArray.toList_eq] at h
  have h2 : s.data = t.data := Array.toList_inj.1 h
  cases s; cases t; simp_all
theorem beq_key (s t : ByteArray) : (s.toList == t.toList) = decide (s = t) := by
  by_cases h : s = t
  · subst h; simp
  · have h2 : ¬ s.toList = t.toList := fun e => h (toList_inj e)
    rw [decide_eq_false h]
    simpa using h2

def hasK (l : List ByteArray) (k : ByteArray) : Bool := l.any fun x => decide (x = k)
theorem hasK_iff {l : List ByteArray} {k : ByteArray} : hasK l k = true ↔ k ∈ l := by
  unfold hasK
  rw [List.any_eq_true]
  exact ⟨fun ⟨x, h1, h2⟩ => by have := of_decide_eq_true h2; subst this; exact h1, fun h => ⟨k, h, decide_eq_true rfl⟩⟩
theorem hasK_not {l : List ByteArray} {k : ByteArray} : hasK l k = false ↔ k ∉ l := by rw [← hasK_iff]; simp
/-- Where a string stands first; -1: nowhere. -/
def idxI (l : List ByteArray) (k : ByteArray) : Int := if hasK l k = true then ((l.findIdx (fun x => decide (x = k)) : Nat) : Int) else -1
theorem idx_hit {l : List ByteArray} {k : ByteArray} {i : Nat} (hi : i < l.length) (h : l[i] = k) (hn : ∀ x ∈ l.take i, x ≠ k) : idxI l k = (i : Int) := by
  have hm : k ∈ l := by rw [← h]; exact List.getElem_mem _
  unfold idxI
  rw [if_pos (hasK_iff.2 hm)]
  congr 1
  rw [List.findIdx_eq hi]
  refine ⟨by simpa using h, fun j hj => ?_⟩
  have := hn (l[j]) (List.mem_take_iff_getElem.2 ⟨j, by omega, rfl⟩)
  simpa using this
theorem idx_none {l : List ByteArray} {k : ByteArray} (hn : ∀ x ∈ l, x ≠ k) : idxI l k = -1 := by
  unfold idxI
  rw [if_neg (fun hm => hn k (hasK_iff.1 hm) rfl)]

set_option maxHeartbeats 1000000 in
theorem index_keys (a : Option Addr) (cap : Nat) (l : List ByteArray) (k : ByteArray) (w : World) (hs : Sl w Value.string a l) (hlen : l.length ≤ 100000) :
    Calls Try.prog 34 #[.slice a l.length cap, .string k] w fun e w' => e = .returned (.int .i64 (idxI l k)) ∧ w = w' := by
  obtain ⟨R, hR⟩ : ∃ R, R = idxI l k := ⟨_, rfl⟩
  rw [← hR]
  have HR := Lib.hid hR
  have HS := Lib.hid hs
  clear hR hs
  go_enter Try.func34, Try.ntmps34
  go_wp2
  go_loopw [5, 8] (fun _ i wr => ∃ j : Nat, j ≤ l.length ∧ i = .int .i64 j ∧ Hid (∀ x ∈ l.take j, x ≠ k) ∧ Hid (w = wr)) (fun _ i _ => l.length - (intOf i).toNat)
  case atStart => exact ⟨0, Nat.zero_le _, rfl, Lib.hid (fun x hx => by simp at hx), rfl⟩
  case round =>
    rename_i hkl1
    obtain ⟨j, hj, rfl, HN, HL⟩ := hrel
    by_cases hlt : j < l.length
    · clear hkl1
      obtain ⟨b, off, rfl, hbl, hc⟩ := HS.out (by intro e; rw [e] at hlt; simp at hlt)
      have q0 := hc j l[j] (List.getElem?_eq_getElem hlt)
      have eL := HL.out
      subst eL
      have h0 : (0 : Int) ≤ (j : Int) := by omega
      have h1 : (j : Int) < (l.length : Int) := by omega
      have HT := Lib.hid (List.take_succ_eq_append_getElem hlt)
      have HLT := Lib.hid hlt
      generalize hx : l[j] = x at *
      have HX := Lib.hid hx
      clear hc hx hlt
      have e1 := beq_key k x
      by_cases he : k = x
      · have HE := Lib.hid he
        rw [decide_eq_true he] at e1
        clear he
        go_wp2
        go_ret
        refine ⟨ret_int ?_, rfl⟩
        rw [HR.out]
        exact (idx_hit HLT.out (HX.out.trans HE.out.symm) HN.out).symm
      · rw [decide_eq_false he] at e1
        have HN2 : Hid (∀ y ∈ l.take (j + 1), y ≠ k) := by
          rw [HT.out]
          intro y hy
          rcases List.mem_append.1 hy with h2 | h2
          · exact HN.out y h2
          · rw [List.mem_singleton] at h2; rw [h2]; exact fun e => he e.symm
        clear he
        have hlt2 := HLT.out
        go_wp2
        go_roundw
        case rel => exact ⟨j + 1, by omega, by go_num, HN2, Lib.hid trivial⟩
        case measure => simp [intOf]; omega
    · have hjl : j = l.length := by omega
      subst hjl
      rw [List.take_of_length_le (Nat.le_refl _)] at HN
      go_wp2
      go_ret
      refine ⟨ret_int ?_, HL.out⟩
      rw [HR.out, idx_none HN.out]

theorem contains_keys (a : Option Addr) (cap : Nat) (l : List ByteArray) (k : ByteArray) (w : World) (hs : Sl w Value.string a l) (hlen : l.length ≤ 100000) :
    Calls Try.prog 39 #[.slice a l.length cap, .string k] w fun e w' => e = .returned (.bool (hasK l k)) ∧ w = w' := by
  have hI := index_keys a cap l k w hs hlen
  have HI := Lib.hid hI
  clear hI hs
  have hv : decide (idxI l k ≥ 0) = hasK l k := by
    unfold idxI
    cases h : hasK l k
    · rw [if_neg (by simp)]; rfl
    · rw [if_pos rfl, decide_eq_true (by omega)]
  have HV := Lib.hid hv
  clear hv
  generalize idxI l k = r at *
  go_enter Try.func39, Try.ntmps39
  go_wp2_with fail
  refine HI.out.mono ?_
  rintro e w1 ⟨rfl, rfl⟩
  go_wp2
  go_ret
  exact ⟨ret_bool HV.out, rfl⟩

set_option maxRecDepth 100000 in
set_option maxHeartbeats 2000000 in
theorem delete_keys (base g cap : Nat) (l : List ByteArray) (i j : Nat) (w : World) (h : Ks w base (.slice (some ⟨g, 0, none⟩) l.length cap) l) (hi : i < l.length) (hlen : l.length ≤ 100000) (hj : j = i + 1) :
    Calls Try.prog 35 #[.slice (some ⟨g, 0, none⟩) l.length cap, .int .i64 (i : Int), .int .i64 (j : Int)] w fun e w' =>
      e = .returned (.slice (some ⟨g, 0, none⟩) (l.length - 1) cap) ∧ Ks w' base (.slice (some ⟨g, 0, none⟩) (l.length - 1) cap) (l.eraseIdx i) ∧ Chg [g] w w' := by
  have hcap : l.length ≤ cap ∧ cap ≤ maxLen := by
    rcases h.form with ⟨h1, _⟩ | ⟨g', cap', h1, _, _, h2, h3⟩
    · simp at h1
    · simp only [Value.slice.injEq, Option.some.injEq, Addr.mk.injEq, and_true, true_and] at h1
      obtain ⟨rfl, rfl⟩ := h1
      exact ⟨h2, h3⟩
  have HK := Lib.hid h
  have HE : Hid ((l.eraseIdx i).length = l.length - 1) := by show _ = _; rw [List.length_eraseIdx, if_pos hi]
  clear h
  obtain ⟨hc1, hc2⟩ := hcap
  have hij : i < j := by omega
  have hjl : j ≤ l.length := by omega
  have hic : i ≤ cap := by omega
  have hjc : j ≤ cap := by omega
  have HJ := Lib.hid hj
  clear hj
  unfold maxLen at hc2
  obtain ⟨A, hA, hA2⟩ : ∃ A : Addr, (if cap = j then some (⟨g, 0, none⟩ : Addr) else some ⟨g, j, none⟩) = some A ∧ Hid (A = ⟨g, i + 1, none⟩ ∨ l.length = i + 1) := by
    by_cases h : cap = j
    · exact ⟨⟨g, 0, none⟩, by simp [h], .inr (by have := HJ.out; omega)⟩
    · exact ⟨⟨g, j, none⟩, by simp [h], .inl (by rw [HJ.out])⟩
  go_enter Try.func35, Try.ntmps35
  go_wp2_with fail
  go_region_law (refine step_keys_cut rfl _ _ rfl base g cap l i HK.out hi (by simp [Act.eval, Act.put]) A (cap - j) (by simp [Act.eval, Act.put]; have := HJ.out; omega) hA2.out ?_; intro w1 z hk hc; have HK1 := Lib.hid hk; have HC1 : Hid (Chg [g] w w1) := ⟨hc.os, hc.tape, hc.output, hc.size, hc.block⟩; clear hk hc)
  have hq1 : l.length - 1 ≤ l.length := by omega
  have hq2 : l.length - 1 ≤ cap := by omega
  have hq3 : l.length ≤ cap := by omega
  have hq4 : ((l.length - 1 : Nat) : Int) ≤ (l.length : Int) := by omega
  have hq5 : ¬ cap = l.length - 1 := by omega
  have hq6 : l.length - (l.length - 1) = 1 := by omega
  generalize hn : l.length - 1 = n1 at *
  have HN1 := Lib.hid hn
  clear hn
  have HNN : Hid (l.length = n1 + 1) := by have := HN1.out; show _ = _; omega
  go_wp2_with (with_reducible refine wp_keys_clear _ rfl (.tmp 31) rfl base g cap (l.eraseIdx i) z (cap - n1) n1 l.length rfl HE.out HNN.out HK1.out ?_)
  intro w2 hk2 hc2
  have HK2 := Lib.hid hk2
  have HC2 := Lib.hid (HC1.out.trans hc2)
  clear hk2 hc2
  go_wp2
  go_ret
  have e := HN1.out
  rw [e]
  exact ⟨rfl, HK2.out, HC2.out⟩

set_option maxRecDepth 100000 in
set_option maxHeartbeats 1000000 in
theorem clone_keys (v : Value) (base : Nat) (l : List ByteArray) (w : World) (hv : Ks w base v l) (hlen : l.length ≤ 10000) : Calls Try.prog 33 #[v] w fun e w' =>
    ∃ v', e = .returned v' ∧ Ks w' w.heap.size v' l ∧ Below w.heap.size w w' := by
  rcases hv.form with ⟨rfl, rfl⟩ | ⟨g, cap, rfl, _⟩
  · have hq := fun W => eq_nil_keys none 0 0 true rfl W
    go_enter Try.func33, Try.ntmps33
    go_wp2
    go_ret
    exact ⟨_, rfl, Ks.nil _ _, Below.refl _ _⟩
  · have hq := fun W => eq_nil_keys (some ⟨g, 0, none⟩) l.length cap false rfl W
    have HV := Lib.hid hv
    have HB0 : Hid (∀ o, Below w.heap.size w (w.alloc o)) := fun o => (Below.refl _ _).alloc (Nat.le_refl _) o
    have HC0 : Hid (∀ o j u, l[j]? = some u → (w.alloc o).cell? ((⟨g, 0, none⟩ : Addr).add j) = some (.string u)) := by
      intro o j u hu
      have h1 := World.ownsRow.cells hv (g := g) rfl j (.string u) (by rw [List.getElem?_map, hu]; rfl)
      rw [(HB0.out o).cell (p := (⟨g, 0, none⟩ : Addr).add j) (by rw [add_plain]; exact hv.lt g rfl)]
      exact h1
    have HN : Hid (∀ cs : Array Value, cs.size = 0 → Ks (w.alloc (.cells cs 9)) w.heap.size (.slice (some ⟨w.heap.size, 0, none⟩) 0 0) []) := fun cs hcs => by
      obtain rfl := Array.eq_empty_of_size_eq_zero hcs
      exact World.ownsRow_lit w #[] 0 (Nat.le_refl _) (by unfold maxLen; omega) (by simp)
    clear hv
    go_enter Try.func33, Try.ntmps33
    go_wp2_with (at_builtin; refine wp_keys_push _ rfl _ _ rfl w.heap.size _ [] rfl (HN.out _ rfl) ⟨g, 0, none⟩ l.length cap l rfl rfl (HC0.out _) (by simp; omega) (by rw [size_alloc]; omega) ?_)
    intro v' w' hk hg hob
    have HK : Hid (Ks w' w.heap.size v' l) := hk
    have hb : Below w.heap.size w w' := (HB0.out _).grown hg (by rw [size_alloc]; omega) (fun k hk => by simp [Value.ownBlock] at hk; omega)
    have HB := Lib.hid hb
    clear hk hg hob hb
    go_wp2
    go_ret
    exact ⟨_, rfl, HK.out, HB.out⟩

set_option maxHeartbeats 1000000 in
theorem same_keys (a b : Option Addr) (ca cb : Nat) (la lb : List ByteArray) (w : World) (ha : Sl w Value.string a la) (hb : Sl w Value.string b lb) (hlen : la.length ≤ 100000) :
    Calls Try.prog 22 #[.slice a la.length ca, .slice b lb.length cb] w fun e w' => e = .returned (.bool (decide (la = lb))) ∧ Below w.heap.size w w' := by
  obtain ⟨R, hR⟩ : ∃ R, R = decide (la = lb) := ⟨_, rfl⟩
  rw [← hR]
  have HR := Lib.hid hR
  clear hR
  by_cases hl : la.length = lb.length
  · have HA := Lib.hid ha
    have HB := Lib.hid hb
    have HLL := Lib.hid hl
    have hne : ((la.length : Int) != (lb.length : Int)) = false := by rw [hl]; simp
    clear ha hb
    go_enter Try.func22, Try.ntmps22
    go_wp2_with fail
    clear hl hne
    go_loopw [5] (fun i wr => ∃ j : Nat, j ≤ la.length ∧ i = .int .i64 j ∧ Hid (la.take j = lb.take j) ∧ Hid (Below w.heap.size w wr)) (fun i _ => la.length - (intOf i).toNat)
    case atStart => exact ⟨0, Nat.zero_le _, rfl, rfl, Below.refl _ _⟩
    case round =>
      rename_i hkl1
      obtain ⟨j, hj, rfl, HE, HL⟩ := hrel
      by_cases hlt : j < la.length
      · clear hkl1
        have hlt2 : j < lb.length := by have := HLL.out; omega
        obtain ⟨ab, ao, rfl, hbl, hc⟩ := HA.out (by intro e; rw [e] at hlt; simp at hlt)
        obtain ⟨bb, bo, rfl, hbl2, hc2⟩ := HB.out (by intro e; rw [e] at hlt2; simp at hlt2)
        have q0 := (HL.out.cell (p := ⟨ab, ao + j, none⟩) hbl).trans (hc j la[j] (List.getElem?_eq_getElem hlt))
        have q1 := (HL.out.cell (p := ⟨bb, bo + j, none⟩) hbl2).trans (hc2 j lb[j] (List.getElem?_eq_getElem hlt2))
        have h0 : (0 : Int) ≤ (j : Int) := by omega
        have h1 : (j : Int) < (la.length : Int) := by omega
        have h2 : (j : Int) < (lb.length : Int) := by omega
        have HT := Lib.hid (List.take_succ_eq_append_getElem hlt)
        have HT2 := Lib.hid (List.take_succ_eq_append_getElem hlt2)
        have HG : Hid (la = lb → la[j] = lb[j]) := by rintro rfl; rfl
        have HLT := Lib.hid hlt
        generalize la[j] = x at *
        generalize lb[j] = y at *
        clear hc hc2 hbl hbl2 hlt hlt2
        have e1 := beq_key x y
        have HDN : Hid (∀ nq, Below w.heap.size w (wr.drewN nq)) := fun nq => ⟨HL.out.os, HL.out.tape, HL.out.output, HL.out.size, HL.out.block⟩
        by_cases he : x = y
        · rw [decide_eq_true he] at e1
          have HE2 : Hid (la.take (j + 1) = lb.take (j + 1)) := by show _ = _; rw [HT.out, HT2.out, HE.out, he]
          clear he
          go_wp2_with fail
          go_quiet (fail)
          have hlt := HLT.out
          go_wp2
          go_roundw
          case rel => exact ⟨j + 1, by omega, by go_num, HE2, HDN.out _⟩
          case measure => simp [intOf]; omega
        · rw [decide_eq_false he] at e1
          have HE2 : Hid (R = false) := by show _ = _; rw [HR.out, decide_eq_false (fun e => he (HG.out e))]
          clear he
          go_wp2_with fail
          go_quiet (fail)
          go_wp2
          go_ret
          exact ⟨ret_bool HE2.out.symm, HDN.out _⟩
      · have hjl : j = la.length := by omega
        have HE2 : Hid (R = true) := by
          show _ = _
          have h9 := HE.out
          rw [hjl, List.take_of_length_le (Nat.le_refl _), HLL.out, List.take_of_length_le (Nat.le_refl _)] at h9
          rw [HR.out, decide_eq_true h9]
        subst hjl
        go_wp2
        go_ret
        exact ⟨ret_bool HE2.out.symm, HL.out⟩
  · have HE2 : Hid (R = false) := by show _ = _; rw [HR.out, decide_eq_false (fun e => hl (by rw [e]))]
    have hne : ((la.length : Int) != (lb.length : Int)) = true := by simpa using fun h => hl (by exact_mod_cast h)
    clear ha hb
    go_enter Try.func22, Try.ntmps22
    go_wp2
    go_ret
    exact ⟨ret_bool HE2.out.symm, Below.refl _ _⟩
end Go.Proofs.Ytnfdcjchobonaaa
