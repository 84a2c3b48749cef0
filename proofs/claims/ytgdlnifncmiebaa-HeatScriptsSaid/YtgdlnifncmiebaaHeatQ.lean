/-
  The reference's heat: find, Value, Forget.
-/
import Derived.Test.YtgdlnifncmiebaaHeatP
namespace Go.Proofs.Ytgdlnifncmiebaa
open Go.RowKit Go.ChangeShapes Go.WideShapes Go.ChangeAt

theorem RefAt.slice {w : World} {b : Nat} {v : Value} {l : List MkD} (h : RefAt w b v l) : ∃ a c, v = .slice a l.length c := by
  rcases h.row.form with ⟨rfl, rfl⟩ | ⟨g, cap, rfl, _⟩
  · exact ⟨_, _, rfl⟩
  · exact ⟨_, _, rfl⟩
/-- The cells of the i-th count. -/
theorem RefAt.at_ {w w' : World} {b : Nat} {a : Option Addr} {n c : Nat} {l : List MkD} (h : RefAt w b (.slice a n c) l) (hb : Below w.heap.size w w') (i : Nat) (hi : i < l.length) : ∃ g, a = some ⟨g, 0, none⟩ ∧ w'.cell? ⟨g, i * 3, none⟩ = some (.string l[i].1) ∧ w'.cell? ⟨g, i * 3 + 1, none⟩ = some (.int .i64 l[i].2.1) ∧ w'.cell? ⟨g, i * 3 + 2, none⟩ = some (.int .i64 l[i].2.2) := by
  rcases h.row.form with ⟨_, h0⟩ | ⟨g, cap, hv, _, hg, _⟩
  · rw [h0] at hi; simp at hi
  · simp only [Value.slice.injEq] at hv
    obtain ⟨rfl, _, rfl⟩ := hv
    obtain ⟨c0, c1, c2⟩ := h.row.cells (List.getElem?_eq_getElem hi)
    exact ⟨g, rfl, (hb.cell (p := ⟨g, i * 3, none⟩) hg).trans c0, (hb.cell (p := ⟨g, i * 3 + 1, none⟩) hg).trans c1, (hb.cell (p := ⟨g, i * 3 + 2, none⟩) hg).trans c2⟩
theorem find_take {l : List MkD} {k : ByteArray} {j : Nat} (hj : j < l.length) (hn : ∀ x ∈ l.take j, x.1 ≠ k) (he : l[j].1 = k) : findM l k = some l[j].2 := by
  have e : l = l.take j ++ (l[j] :: l.drop (j + 1)) := by rw [← List.drop_eq_getElem_cons hj, List.take_append_drop]
  have h1 : findM (l.take j) k = none := find_none.2 hn
  conv => lhs; rw [e]
  rw [find_app, h1, find_cons, if_pos he]
  rfl

set_option maxRecDepth 100000 in
set_option maxHeartbeats 2000000 in
theorem rfind (b : Nat) (v : Value) (l : List MkD) (k : ByteArray) (w : World) (h : RefAt w b v l) (hlen : l.length ≤ 100000) :
    Calls Try.prog 22 #[.pointer (some ⟨b, 0, none⟩), .string k] w fun e w' => ∃ r : Int, e = .returned (.int .i64 r) ∧ ((findM l k = none ∧ r = -1) ∨ ∃ (i : Nat) (hi : i < l.length), r = (i : Int) ∧ l[i].1 = k ∧ findM l k = some l[i].2) ∧ w = w' := by
  obtain ⟨a, c, rfl⟩ := h.slice
  have HR := Lib.hid h
  have c0 := h.box.cell 0 _ rfl
  clear h
  go_enter Try.func22, Try.ntmps22
  go_wp2
  go_loopw [5] (fun i wr => ∃ j : Nat, j ≤ l.length ∧ i = .int .i64 j ∧ Hid (∀ x ∈ l.take j, x.1 ≠ k) ∧ w = wr) (fun i _ => l.length - (intOf i).toNat)
  case atStart => exact ⟨0, Nat.zero_le _, rfl, fun _ h => by simp at h, rfl⟩
  case round =>
    rename_i hkl
    obtain ⟨j, hj, rfl, HN, rfl⟩ := hrel
    by_cases hlt : j < l.length
    · obtain ⟨g, rfl, q0, _, _⟩ := HR.out.at_ (Below.refl _ _) j hlt
      have h0 : (0 : Int) ≤ (j : Int) := by omega
      have h1 : (j : Int) < (l.length : Int) := by omega
      have e1 := beq_key l[j].1 k
      have HT := Lib.hid (List.take_succ_eq_append_getElem hlt)
      by_cases he : l[j].1 = k
      · have HF := Lib.hid (find_take hlt HN.out he)
        have HE := Lib.hid he
        rw [decide_eq_true he] at e1
        clear he
        go_wp2
        go_ret
        exact ⟨(j : Int), by simp, .inr ⟨j, hlt, by simp, HE.out, HF.out⟩, rfl⟩
      · clear hkl
        have HN2 : Hid (∀ x ∈ l.take (j + 1), x.1 ≠ k) := by
          intro x hx
          rw [HT.out] at hx
          rcases List.mem_append.1 hx with h | h
          · exact HN.out x h
          · rw [List.mem_singleton] at h; rw [h]; exact he
        rw [decide_eq_false he] at e1
        clear he
        generalize l[j] = x at *
        go_wp2
        go_roundw
        case rel => exact ⟨j + 1, by omega, by go_num, HN2, by simp⟩
        case measure => simp [intOf]; omega
    · have hjl : j = l.length := by omega
      subst hjl
      rw [List.take_of_length_le (Nat.le_refl _)] at HN
      go_wp2
      go_ret
      exact ⟨-1, by simp, .inl ⟨find_none.2 HN.out, by simp⟩, rfl⟩

set_option maxRecDepth 100000 in
set_option maxHeartbeats 2000000 in
theorem rvalue (b : Nat) (v : Value) (l : List MkD) (k : ByteArray) (now : Int) (w : World) (h : RefAt w b v l) (hok : OkM l) (hn : now ≤ 9223372036854775807) :
    Calls Try.prog 16 #[.pointer (some ⟨b, 0, none⟩), .string k, .int .i64 now] w fun e w' => e = .returned (.int .i64 (valueM l k now)) ∧ Below w.heap.size w w' := by
  have HFI := Lib.hid (rfind b v l k w h (by have := hok.1; omega))
  obtain ⟨a, c, rfl⟩ := h.slice
  have HR := Lib.hid h
  have HOK := Lib.hid hok
  have HN := Lib.hid hn
  have c0 := h.box.cell 0 _ rfl
  clear h hok hn
  go_enter Try.func16, Try.ntmps16
  go_wp2_with fail
  refine HFI.out.mono ?_
  rintro e w1 ⟨r, rfl, hr, rfl⟩
  rcases hr with ⟨hf, rfl⟩ | ⟨i, hi, rfl, hk, hf⟩
  · have HV : Hid (valueM l k now = 0) := by show _ = _; unfold valueM; rw [hf]
    clear hf
    go_wp2
    go_ret
    exact ⟨by rw [HV.out]; simp, Below.refl _ _⟩
  · obtain ⟨g, rfl, q0, q1, q2⟩ := HR.out.at_ (Below.refl _ _) i hi
    have hx := HOK.out.2 _ (List.getElem_mem hi)
    have HW := Lib.hid (rworth l[i].1 l[i].2.1 l[i].2.2 now w hx.1 hx.2.1 hx.2.2.1 HN.out)
    have HV : Hid (valueM l k now = worthOf l[i].2.1 l[i].2.2 now) := by show _ = _; unfold valueM; rw [hf]
    have h0 : (0 : Int) ≤ (i : Int) := by omega
    have h1 : (i : Int) < (l.length : Int) := by omega
    have d0 : decide ((i : Int) < 0) = false := decide_eq_false (by omega)
    clear hf hk hx
    generalize l[i] = x at *
    obtain ⟨xk, xc, xt⟩ := x
    dsimp only at q0 q1 q2 HW HV
    go_wp2_with fail
    refine HW.out.mono ?_
    rintro e w2 ⟨rfl, hb⟩
    have HB := Lib.hid hb
    clear hb q0 q1 q2 c0
    go_wp2
    go_ret
    exact ⟨by rw [HV.out]; simp, HB.out⟩

theorem forget_take {l : List MkD} {k : ByteArray} {j : Nat} (hj : j < l.length) : forgetM (l.take (j + 1)) k = if l[j].1 = k then forgetM (l.take j) k else forgetM (l.take j) k ++ [l[j]] := by
  rw [List.take_succ_eq_append_getElem hj]
  unfold forgetM
  rw [List.filter_append]
  by_cases h : l[j].1 = k <;> simp [h]

set_option maxRecDepth 100000 in
set_option maxHeartbeats 2000000 in
theorem rforget (b : Nat) (v : Value) (l : List MkD) (k : ByteArray) (w : World) (h : RefAt w b v l) (hlen : l.length ≤ 90000) :
    Calls Try.prog 14 #[.pointer (some ⟨b, 0, none⟩), .string k] w fun e w' => e = .returned (.tuple #[]) ∧ Tod (RefF b (forgetM l k)) (b :: v.ownBlock.toList) w w' := by
  obtain ⟨F, hF⟩ : ∃ F, F = b :: v.ownBlock.toList := ⟨_, rfl⟩
  have HF : Hid (b ∈ F) := by rw [hF]; exact List.mem_cons_self
  rw [← hF]
  clear hF
  obtain ⟨a, c, rfl⟩ := h.slice
  have HR := Lib.hid h
  have c0 := h.box.cell 0 _ rfl
  clear h
  go_enter Try.func14, Try.ntmps14
  go_wp2
  go_loopw [4, 5] (fun s i wr => ∃ (x : Value) (j : Nat), j ≤ l.length ∧ x = s ∧ i = .int .i64 j ∧ Hid (Cs wr w.heap.size x (forgetM (l.take j) k)) ∧ Hid (Below w.heap.size w wr)) (fun _ i _ => l.length - (intOf i).toNat)
  case atStart => exact ⟨_, 0, Nat.zero_le _, rfl, rfl, Cs.nil _ _, Below.refl _ _⟩
  case round =>
    rename_i hkl
    obtain ⟨x, j, hj, rfl, rfl, HC, HB⟩ := hrel
    have cb := (HB.out.cell (p := ⟨b, 0, none⟩) HR.out.box.lt).trans c0
    by_cases hlt : j < l.length
    · clear hkl
      obtain ⟨g, rfl, q0, q1, q2⟩ := HR.out.at_ HB.out j hlt
      have h0 : (0 : Int) ≤ (j : Int) := by omega
      have h1 : (j : Int) < (l.length : Int) := by omega
      have HT := Lib.hid (forget_take (k := k) hlt)
      have e1 := beq_key l[j].1 k
      have HFL : Hid ((forgetM (l.take j) k).length ≤ 100000) := by show _ ≤ _; have := forget_le (l.take j) k; rw [List.length_take] at this; omega
      by_cases he : l[j].1 = k
      · have HC2 : Hid (Cs wr w.heap.size x (forgetM (l.take (j + 1)) k)) := by show Cs _ _ _ _; rw [HT.out, if_pos he]; exact HC.out
        rw [decide_eq_true he] at e1
        clear he
        generalize l[j] = y at *
        go_wp2
        go_roundw
        case rel => exact ⟨_, j + 1, by omega, rfl, by go_num, HC2, HB⟩
        case measure => simp [intOf]; omega
      · have HT2 : Hid (forgetM (l.take (j + 1)) k = forgetM (l.take j) k ++ [l[j]]) := by show _ = _; rw [HT.out, if_neg he]
        rw [decide_eq_false he] at e1
        clear he
        generalize l[j] = y at *
        obtain ⟨yk, yc, yt⟩ := y
        dsimp only at q0 q1 q2 e1
        have HBX : Hid (∀ o, Below w.heap.size w (wr.alloc o)) := fun o => HB.out.alloc HB.out.size o
        have HKX : Hid (∀ o, Cs (wr.alloc o) w.heap.size x (forgetM (l.take j) k)) := fun o => HC.out.alloc o
        have hne : (yk.toList != k.toList) = true := by simp only [bne, e1, Bool.not_false]
        go_wp2_with (at_builtin; refine wp_ct_push _ rfl _ _ rfl w.heap.size x (forgetM (l.take j) k) rfl (HKX.out _) ⟨wr.heap.size, 0, none⟩ 1 (yk, yc, yt) rfl ?c1 HFL.out (HBX.out _).size ?_)
        case c1 =>
          intro i u hu
          match i, hu with
          | 0, hu => simp [CtV] at hu; subst hu; (first | rfl | exact (Box.new wr 56 #[.string yk, .int .i64 yc, .int .i64 yt]).cell 0 _ rfl)
          | 1, hu => simp [CtV] at hu; subst hu; (first | rfl | exact (Box.new wr 56 #[.string yk, .int .i64 yc, .int .i64 yt]).cell 1 _ rfl)
          | 2, hu => simp [CtV] at hu; subst hu; (first | rfl | exact (Box.new wr 56 #[.string yk, .int .i64 yc, .int .i64 yt]).cell 2 _ rfl)
          | i + 3, hu => simp [CtV] at hu
        intro v' w1 hk hg _
        have HB1 : Hid (Below w.heap.size w w1) := (HBX.out _).grown hg (HBX.out _).size (fun k hk => HC.out.own_block k hk)
        have HK2 : Hid (Cs w1 w.heap.size v' (forgetM (l.take (j + 1)) k)) := by rw [HT2.out]; exact hk
        clear hk hg q0 q1 q2
        go_wp2
        go_roundw
        case rel => exact ⟨_, j + 1, by omega, rfl, by go_num, HK2, HB1⟩
        case measure => simp [intOf]; omega
    · have hjl : j = l.length := by omega
      subst hjl
      rw [List.take_of_length_le (Nat.le_refl _)] at HC
      have hfz := (HR.out.box.keep HB.out HR.out.box.lt).free 0
      obtain ⟨xa, xn, xc, hxf⟩ : ∃ a n c, x = .slice a n c := by
        rcases HC.out.form with ⟨rfl, _⟩ | ⟨g, cap, rfl, _⟩ <;> exact ⟨_, _, _, rfl⟩
      subst hxf
      go_wp2
      go_end0
      have hbx := HR.out.box.keep HB.out HR.out.box.lt
      have hxb : ∀ i, (Value.slice xa xn xc).ownBlock = some i → i ≠ b := fun i hi e => by
        have := HC.out.own_block i hi; have := HR.out.box.lt; omega
      refine ⟨rfl, b :: (Value.slice xa xn xc).ownBlock.toList, ⟨.slice xa xn xc, ⟨hbx.set 0 _, ?_, fun e => hxb b e rfl⟩, rfl⟩, ?_, ?_⟩
      · exact (HC.out.low (Nat.zero_le _)).chg (S := [b]) ((Chg.refl _ _).set b 0 _ (.inl (by simp))) (fun i hi => by simpa using hxb i hi)
      · exact (Chg.of HB.out (Nat.le_refl _)).set b 0 _ (.inl HF.out)
      · intro i hi
        rcases List.mem_cons.1 hi with rfl | hi
        · exact .inl HF.out
        · exact .inr (HC.out.own_block i (by simpa using hi))
end Go.Proofs.Ytgdlnifncmiebaa
