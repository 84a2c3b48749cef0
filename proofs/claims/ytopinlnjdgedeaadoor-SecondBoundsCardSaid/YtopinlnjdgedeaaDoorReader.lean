/-
  Contracts of the reader's methods (package fixed).
-/
import Derived.Test.YtopinlnjdgedeaaDoorMg1
namespace Go.Proofs.YtopinlnjdgedeaaDoor
open Go.RowKit

/-- Block b is a Reader: what is left, and its error. -/
def RdAt (w : World) (b : Nat) (s : ByteArray) (e : Int) : Prop := w.heap[b]? = some (.cells #[.string s, .int .i64 e] 131 (0, 0))

theorem RdAt.cells {w : World} {b : Nat} {s : ByteArray} {e : Int} (h : RdAt w b s e) :
    w.cell? ⟨b, 0, none⟩ = some (.string s) ∧ w.cell? ⟨b, 1, none⟩ = some (.int .i64 e) ∧ w.frozen? ⟨b, 0, none⟩ = false ∧ w.frozen? ⟨b, 1, none⟩ = false := by
  unfold RdAt at h
  refine ⟨?_, ?_, ?_, ?_⟩ <;> simp [World.cell?, World.frozen?, h]

theorem RdAt.set0 {w : World} {b : Nat} {s : ByteArray} {e : Int} (h : RdAt w b s e) (s' : ByteArray) : RdAt (w.setCell ⟨b, 0, none⟩ (.string s')) b s' e := by
  have := heap_setCell_same w b 0 _ _ (.string s') h
  exact this
theorem RdAt.set1 {w : World} {b : Nat} {s : ByteArray} {e : Int} (h : RdAt w b s e) (e' : Int) : RdAt (w.setCell ⟨b, 1, none⟩ (.int .i64 e')) b s e' := by
  have := heap_setCell_same w b 1 _ _ (.int .i64 e') h
  exact this

/-- An error makes the rest nothing; an earlier one stays. -/
def failS (s : ByteArray) (e : Int) : ByteArray := if e = 0 then ⟨#[]⟩ else s
def failE (e x : Int) : Int := if e = 0 then x else e

theorem fail_nil (x : Int) (w : World) : Calls Tryd.prog 74 #[.pointer none, .int .i64 x] w fun e w' => e = .returned (.tuple #[]) ∧ w = w' := by
  go_enter Tryd.func74, Tryd.ntmps74
  go_wp2
  refine bodyPost_ret (results_none rfl _ _ _) rfl ?_
  exact ⟨rfl, rfl⟩

theorem fail_own (b : Nat) (s : ByteArray) (er x : Int) (w : World) (h : RdAt w b s er) :
    Calls Tryd.prog 74 #[.pointer (some ⟨b, 0, none⟩), .int .i64 x] w fun e w' => e = .returned (.tuple #[]) ∧ RdAt w' b (failS s er) (failE er x) ∧ Only b w w' := by
  obtain ⟨h0, h1, f0, f1⟩ := h.cells
  by_cases he : er = 0
  · subst he
    have H : Hid (RdAt w b s 0) := h
    clear h
    go_enter Tryd.func74, Tryd.ntmps74
    go_wp2
    go_end0
    exact ⟨rfl, (H.out.set1 x).set0 _, (Only.set b 1 w _).trans (Only.set b 0 _ _)⟩
  · have H : Hid (RdAt w b s er) := h
    have he' : (er == 0) = false := by simp [he]
    have e1 : failS s er = s := by unfold failS; rw [if_neg he]
    have e2 : failE er x = er := by unfold failE; rw [if_neg he]
    rw [e1, e2]
    clear h e1 e2
    go_enter Tryd.func74, Tryd.ntmps74
    go_wp2
    refine bodyPost_ret (results_none rfl _ _ _) rfl ?_
    exact ⟨rfl, H.out, Only.refl _ _⟩

theorem bytes_nil (n : Int) (w : World) : Calls Tryd.prog 62 #[.pointer none, .int .i64 n] w fun e w' => e = .returned (.string ⟨#[]⟩) ∧ w = w' := by
  go_enter Tryd.func62, Tryd.ntmps62
  go_wp2
  go_ret
  exact ⟨rfl, rfl⟩

/-- What Bytes takes, and what it leaves. -/
def bytesR (s : ByteArray) (n : Int) : ByteArray := if n < 0 ∨ (s.size : Int) < n then ⟨#[]⟩ else s.extract 0 n.toNat
def bytesS (s : ByteArray) (e n : Int) : ByteArray := if n < 0 ∨ (s.size : Int) < n then failS s e else s.extract n.toNat s.size
def bytesE (s : ByteArray) (e n : Int) : Int := if n < 0 then failE e 1 else if (s.size : Int) < n then failE e 2 else e

theorem bytes_own (b : Nat) (s : ByteArray) (er n : Int) (w : World) (h : RdAt w b s er) :
    Calls Tryd.prog 62 #[.pointer (some ⟨b, 0, none⟩), .int .i64 n] w fun e w' => e = .returned (.string (bytesR s n)) ∧ RdAt w' b (bytesS s er n) (bytesE s er n) ∧ Only b w w' := by
  have H : Hid (RdAt w b s er) := h
  obtain ⟨h0, h1, f0, f1⟩ := h.cells
  clear h
  by_cases hn : n < 0
  · rw [show bytesR s n = ⟨#[]⟩ from if_pos (Or.inl hn), show bytesS s er n = failS s er from if_pos (Or.inl hn), show bytesE s er n = failE er 1 from if_pos hn]
    go_enter Tryd.func62, Tryd.ntmps62
    go_wp2_with fail
    refine (fail_own b s er 1 _ H.out).mono ?_
    rintro e w' ⟨rfl, hr, hb⟩
    have Hr : Hid (RdAt w' b (failS s er) (failE er 1)) := hr
    have Hb : Hid (Only b w w') := hb
    clear hr hb
    go_wp2
    go_ret
    exact ⟨rfl, Hr.out, Hb.out⟩
  · by_cases hl : (s.size : Int) < n
    · rw [show bytesR s n = ⟨#[]⟩ from if_pos (Or.inr hl), show bytesS s er n = failS s er from if_pos (Or.inr hl), show bytesE s er n = failE er 2 from by unfold bytesE; rw [if_neg hn, if_pos hl]]
      go_enter Tryd.func62, Tryd.ntmps62
      go_wp2_with fail
      refine (fail_own b s er 2 _ H.out).mono ?_
      rintro e w' ⟨rfl, hr, hb⟩
      have Hr : Hid (RdAt w' b (failS s er) (failE er 2)) := hr
      have Hb : Hid (Only b w w') := hb
      clear hr hb
      go_wp2
      go_ret
      exact ⟨rfl, Hr.out, Hb.out⟩
    · have hc : ¬ (n < 0 ∨ (s.size : Int) < n) := by omega
      rw [show bytesR s n = s.extract 0 n.toNat from if_neg hc, show bytesS s er n = s.extract n.toNat s.size from if_neg hc, show bytesE s er n = er from by unfold bytesE; rw [if_neg hn, if_neg hl]]
      clear hc
      obtain ⟨k, rfl⟩ : ∃ k : Nat, n = k := ⟨n.toNat, by omega⟩
      have hk : k ≤ s.size := by omega
      clear hn hl
      go_enter Tryd.func62, Tryd.ntmps62
      go_wp2
      go_ret
      exact ⟨rfl, H.out.set0 _, Only.set b 0 w _⟩

def okW (n : Int) : Prop := 1 ≤ n ∧ n ≤ 7
instance (n : Int) : Decidable (okW n) := inferInstanceAs (Decidable (_ ∧ _))
def numR (s : ByteArray) (n : Int) : Int := if okW n then leVal (bytesR s n).data.toList else 0
def numS (s : ByteArray) (e n : Int) : ByteArray := if okW n then bytesS s e n else failS s e
def numE (s : ByteArray) (e n : Int) : Int := if okW n then bytesE s e n else failE e 1

theorem number_nil (n : Int) (w : World) : Calls Tryd.prog 63 #[.pointer none, .int .i64 n] w fun e w' => e = .returned (.int .i64 0) ∧ w = w' := by
  by_cases hn : okW n
  · have hm : 0 ≤ mostI n := by unfold mostI; unfold okW at hn; rw [if_pos hn]; have := p256' n.toNat (by omega); omega
    clear hn
    go_enter Tryd.func63, Tryd.ntmps63
    go_wp2_with fail
    refine (most_any n _).mono ?_
    rintro e w' ⟨rfl, rfl⟩
    go_wp2_with fail
    refine (bytes_nil n _).mono ?_
    rintro e w' ⟨rfl, rfl⟩
    go_wp2
    refine wp_loop_rounds 1 ?_
    rw [rounds_succ]
    go_wp2
    go_ret
    exact ⟨rfl, rfl⟩
  · have hm : mostI n < 0 := by unfold mostI; unfold okW at hn; rw [if_neg hn]; omega
    clear hn
    go_enter Tryd.func63, Tryd.ntmps63
    go_wp2_with fail
    refine (most_any n _).mono ?_
    rintro e w' ⟨rfl, rfl⟩
    go_wp2_with fail
    refine (fail_nil 1 _).mono ?_
    rintro e w' ⟨rfl, rfl⟩
    go_wp2
    go_ret
    exact ⟨rfl, rfl⟩

theorem number_own (b : Nat) (s : ByteArray) (er n : Int) (w : World) (h : RdAt w b s er) :
    Calls Tryd.prog 63 #[.pointer (some ⟨b, 0, none⟩), .int .i64 n] w fun e w' => e = .returned (.int .i64 (numR s n)) ∧ RdAt w' b (numS s er n) (numE s er n) ∧ Only b w w' := by
  have H : Hid (RdAt w b s er) := h
  clear h
  by_cases hn : okW n
  · rw [show numR s n = _ from if_pos hn, show numS s er n = _ from if_pos hn, show numE s er n = _ from if_pos hn]
    have hm : 0 ≤ mostI n := by unfold mostI; unfold okW at hn; rw [if_pos hn]; have := p256' n.toNat (by omega); omega
    have hn' : n ≤ 7 := hn.2
    have hsz : (bytesR s n).size ≤ 7 := by
      unfold bytesR; split
      · exact Nat.zero_le _
      · rw [ByteArray.size_extract]; omega
    obtain ⟨t, ht⟩ : ∃ t, t = bytesR s n := ⟨_, rfl⟩
    rw [← ht] at hsz ⊢
    have HT := Lib.hid ht
    clear hn ht
    go_enter Tryd.func63, Tryd.ntmps63
    go_wp2_with fail
    refine (most_any n _).mono ?_
    rintro e w' ⟨rfl, rfl⟩
    go_wp2_with fail
    refine (bytes_own b s er n _ H.out).mono ?_
    rintro e w' ⟨rfl, hr, hb⟩
    have Hr := Lib.hid hr
    have Hb := Lib.hid hb
    clear hr hb
    rw [← HT.out]
    go_wp2
    go_loop [6, 18] (fun v i => ∃ j : Nat, j ≤ t.size ∧ i = .int .i64 j ∧ v = .int .i64 (leVal (t.data.toList.take j))) (fun _ i => t.size - (RowKit.intOf i).toNat)
    case atStart => exact ⟨0, Nat.zero_le _, rfl, rfl⟩
    case round =>
      obtain ⟨j, hj, rfl, rfl⟩ := hrel
      by_cases hlt : j < t.size
      · have hb : (t[j].toNat : Int) ≤ 255 := by have := t[j].toNat_lt; omega
        have hs := Lib.hid (leVal_take t j hlt)
        have ho := Lib.hid (orStep (leVal (t.data.toList.take j)) t[j].toNat j (leVal_take_lt t j hj) t[j].toNat_lt (by omega))
        go_wp2
        go_round
        case rel => exact ⟨j + 1, by omega, by go_num, by rw [hs.out, ← ho.out]⟩
        case measure => simp [RowKit.intOf]; omega
      · have hjk : Hid (j = t.size) := by show j = _; omega
        go_wp2
        go_ret
        exact ⟨ret_int (by rw [hjk.out, List.take_of_length_le (by simp)]), Hr.out, Hb.out⟩
  · rw [show numR s n = _ from if_neg hn, show numS s er n = _ from if_neg hn, show numE s er n = _ from if_neg hn]
    have hm : mostI n < 0 := by unfold mostI; unfold okW at hn; rw [if_neg hn]; omega
    clear hn
    go_enter Tryd.func63, Tryd.ntmps63
    go_wp2_with fail
    refine (most_any n _).mono ?_
    rintro e w' ⟨rfl, rfl⟩
    go_wp2_with fail
    refine (fail_own b s er 1 _ H.out).mono ?_
    rintro e w' ⟨rfl, hr, hb⟩
    have Hr := Lib.hid hr
    have Hb := Lib.hid hb
    clear hr hb
    go_wp2
    go_ret
    exact ⟨rfl, Hr.out, Hb.out⟩
theorem RdAt.lt {w : World} {b : Nat} {s : ByteArray} {e : Int} (h : RdAt w b s e) : b < w.heap.size := lt_of_block h
theorem fail_any (b : Nat) (s : ByteArray) (er x : Int) (w : World) (h : RdAt w b s er) :
    Calls Tryd.prog 74 #[.pointer (some ⟨b, 0, none⟩), .int .i64 x] w fun e w' => e = .returned (.tuple #[]) ∧ RdAt w' b (failS s er) (failE er x) ∧ Below b w w' :=
  (fail_own b s er x w h).mono fun _ _ ⟨h1, h2, h3⟩ => ⟨h1, h2, h3.below h.lt⟩
theorem bytes_any (b : Nat) (s : ByteArray) (er n : Int) (w : World) (h : RdAt w b s er) :
    Calls Tryd.prog 62 #[.pointer (some ⟨b, 0, none⟩), .int .i64 n] w fun e w' => e = .returned (.string (bytesR s n)) ∧ RdAt w' b (bytesS s er n) (bytesE s er n) ∧ Below b w w' :=
  (bytes_own b s er n w h).mono fun _ _ ⟨h1, h2, h3⟩ => ⟨h1, h2, h3.below h.lt⟩
theorem number_any (b : Nat) (s : ByteArray) (er n : Int) (w : World) (h : RdAt w b s er) :
    Calls Tryd.prog 63 #[.pointer (some ⟨b, 0, none⟩), .int .i64 n] w fun e w' => e = .returned (.int .i64 (numR s n)) ∧ RdAt w' b (numS s er n) (numE s er n) ∧ Below b w w' :=
  (number_own b s er n w h).mono fun _ _ ⟨h1, h2, h3⟩ => ⟨h1, h2, h3.below h.lt⟩

theorem end_nil (w : World) : Calls Tryd.prog 65 #[.pointer none] w fun e w' => e = .returned (.int .i64 1) ∧ w = w' := by
  go_enter Tryd.func65, Tryd.ntmps65
  go_wp2
  go_ret
  exact ⟨rfl, rfl⟩

def endR (s : ByteArray) (e : Int) : Int := if e ≠ 0 then e else if 0 < s.size then 3 else 0

theorem end_any (b : Nat) (s : ByteArray) (er : Int) (w : World) (h : RdAt w b s er) :
    Calls Tryd.prog 65 #[.pointer (some ⟨b, 0, none⟩)] w fun e w' => e = .returned (.int .i64 (endR s er)) ∧ w = w' := by
  obtain ⟨h0, h1, f0, f1⟩ := h.cells
  clear h
  by_cases he : er = 0
  · subst he
    by_cases hz : 0 < s.size
    · rw [show endR s 0 = 3 from by unfold endR; rw [if_neg (by simp), if_pos hz]]
      go_enter Tryd.func65, Tryd.ntmps65
      go_wp2
      go_ret
      exact ⟨rfl, rfl⟩
    · rw [show endR s 0 = 0 from by unfold endR; rw [if_neg (by simp), if_neg hz]]
      go_enter Tryd.func65, Tryd.ntmps65
      go_wp2
      go_ret
      exact ⟨rfl, rfl⟩
  · rw [show endR s er = er from if_pos he]
    have he' : (er == 0) = false := by simp [he]
    go_enter Tryd.func65, Tryd.ntmps65
    go_wp2
    go_ret
    exact ⟨rfl, rfl⟩

theorem read_any (s : ByteArray) (w : World) : Calls Tryd.prog 61 #[.string s] w fun e w' =>
    e = .returned (.pointer (some ⟨w.heap.size, 0, none⟩)) ∧ RdAt w' w.heap.size s 0 ∧ Below w.heap.size w w' := by
  go_enter Tryd.func61, Tryd.ntmps61
  go_wp2
  go_ret
  exact ⟨rfl, (MapKept.heap_alloc w _).1, (Below.refl _ _).alloc (Nat.le_refl _) _⟩
end Go.Proofs.YtopinlnjdgedeaaDoor
