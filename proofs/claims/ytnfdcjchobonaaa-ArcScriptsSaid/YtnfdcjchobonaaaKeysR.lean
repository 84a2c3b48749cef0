/-
  A row of strings appended to another row; the reference's In.
-/
import Derived.Test.YtnfdcjchobonaaaKeysC
import Derived.Laws.AppendOwnNone
namespace Go.Proofs.Ytnfdcjchobonaaa
open Go.RowKit Go.ChangeShapes Go.WideShapes Go.ChangeAt

theorem wp_keys_rows {ops : Array Oper} {rest : List Oper} {o : Oper} {a : Act} {Q : Exit → Act → World → Prop} (W : World) (hgd : o.guard = none) (s x : Operand)
    (ho : o.op = .call { callee := .builtin .append, args := #[s, x], argTypes := #[35, 35] })
    (base b2 : Nat) (v xv : Value) (l cs : List ByteArray) (hs : a.eval s = v) (hb : Ks W base v l) (hx : a.eval x = xv) (hc : Ks W b2 xv cs)
    (hbytes : l.length + cs.length ≤ 100000) (hbase : base ≤ W.heap.size)
    (h : ∀ v' w', Ks w' base v' (l ++ cs) → W.grownBy w' v.ownBlock → wpList Try.prog ops Q rest (a.put o.dst v') w') : wpList Try.prog ops Q (o :: rest) a W := by
  rcases hc.form with ⟨rfl, rfl⟩ | ⟨g, cap, rfl, _, _, _, _⟩
  · obtain ⟨i0, hi, _⟩ := info_parts infoKey
    refine wpList_append_own_none hgd s x 35 ho base 9 i0 1 Try.underlying35 hi v l.length _ hs hb hx (h v W (by rw [List.append_nil]; exact hb) ⟨rfl, rfl, rfl, Nat.le_refl _, fun _ _ _ => rfl⟩)
  · refine wp_keys_push W hgd s x ho base v l hs hb ⟨g, 0, none⟩ cs.length cap cs hx rfl (fun j u hu => ?_) hbytes hbase (fun v' w' h1 h2 _ => h v' w' h1 h2)
    have := World.ownsRow.cells hc (g := g) rfl j (.string u) (by rw [List.getElem?_map, hu]; rfl)
    exact this

set_option maxHeartbeats 1000000 in
theorem in_keys (a : Option Addr) (cap : Nat) (l : List ByteArray) (k : ByteArray) (w : World) (hs : Sl w Value.string a l) (hlen : l.length ≤ 100000) :
    Calls Try.prog 21 #[.slice a l.length cap, .string k] w fun e w' => e = .returned (.bool (hasK l k)) ∧ w = w' := by
  obtain ⟨R, hR⟩ : ∃ R, R = hasK l k := ⟨_, rfl⟩
  rw [← hR]
  have HR := Lib.hid hR
  have HS := Lib.hid hs
  clear hR hs
  go_enter Try.func21, Try.ntmps21
  go_wp2
  go_loopw [5] (fun i wr => ∃ j : Nat, j ≤ l.length ∧ i = .int .i64 j ∧ Hid (∀ x ∈ l.take j, x ≠ k) ∧ Hid (w = wr)) (fun i _ => l.length - (intOf i).toNat)
  case atStart => exact ⟨0, Nat.zero_le _, rfl, Lib.hid (fun x hx => by simp at hx), rfl⟩
  case round =>
    rename_i hkl1
    obtain ⟨j, hj, rfl, HN, HL⟩ := hrel
    by_cases hlt : j < l.length
    · clear hkl1
      obtain ⟨b, off, rfl, _, hc⟩ := HS.out (by intro e; rw [e] at hlt; simp at hlt)
      have q0 := hc j l[j] (List.getElem?_eq_getElem hlt)
      have eL := HL.out
      subst eL
      have h0 : (0 : Int) ≤ (j : Int) := by omega
      have h1 : (j : Int) < (l.length : Int) := by omega
      have HT := Lib.hid (List.take_succ_eq_append_getElem hlt)
      have HLT := Lib.hid hlt
      have HM : Hid (l[j] ∈ l) := List.getElem_mem hlt
      generalize l[j] = x at *
      clear hc hlt
      have e1 := beq_key x k
      by_cases he : x = k
      · have HE : Hid (R = true) := by show _ = _; rw [HR.out, hasK_iff, ← he]; exact HM.out
        rw [decide_eq_true he] at e1
        clear he
        go_wp2
        go_ret
        exact ⟨ret_bool HE.out.symm, rfl⟩
      · rw [decide_eq_false he] at e1
        have HN2 : Hid (∀ y ∈ l.take (j + 1), y ≠ k) := by
          rw [HT.out]
          intro y hy
          rcases List.mem_append.1 hy with h2 | h2
          · exact HN.out y h2
          · rw [List.mem_singleton] at h2; rw [h2]; exact he
        clear he
        have hlt2 := HLT.out
        go_wp2
        go_roundw
        case rel => exact ⟨j + 1, by omega, by go_num, HN2, Lib.hid trivial⟩
        case measure => simp [intOf]; omega
    · have hjl : j = l.length := by omega
      subst hjl
      rw [List.take_of_length_le (Nat.le_refl _)] at HN
      have HE : Hid (R = false) := by show _ = _; rw [HR.out, hasK_not]; exact fun hm => HN.out k hm rfl
      go_wp2
      go_ret
      exact ⟨ret_bool HE.out.symm, HL.out⟩
end Go.Proofs.Ytnfdcjchobonaaa
