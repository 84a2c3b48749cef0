/-
  The reference's Put.
-/
import Derived.Test.YtbeldjijnjgbfaaMg38
namespace Go.Proofs.Ytbeldjijnjgbfaa
open Go Go.RowKit Go.ChangeShapes Go.WideShapes Go.ChangeAt

def rputF (key val : ByteArray) : Bool → List Ent → List Ent → List Ent
  | laid, [], acc => if laid = true then acc else acc ++ [(key, val)]
  | laid, x :: r, acc =>
    if laid = false ∧ ltK x.1 key = false then rputF key val true r (if x.1 = key then acc ++ [(key, val)] else (acc ++ [(key, val)]) ++ [x])
    else rputF key val laid r (if x.1 = key then acc else acc ++ [x])
theorem rput_drop {key val : ByteArray} : ∀ (l acc : List Ent), rputF key val true l acc = acc ++ dropE key l
  | [], acc => by rw [rputF, if_pos rfl]; simp [dropE]
  | x :: r, acc => by
    rw [rputF, if_neg (by simp), rput_drop r]
    by_cases h : x.1 = key
    · rw [if_pos h, drop_yes h]
    · rw [if_neg h, drop_no h]; simp
theorem ins_head {key val : ByteArray} {L : List Ent} (h : ∀ y ∈ L, ltK key y.1 = true) : insE key val L = (key, val) :: L := by
  cases L with
  | nil => rfl
  | cons x r => rw [insE, if_pos (h x (by simp))]
theorem rput_is {key val : ByteArray} : ∀ (l acc : List Ent), OkL l → rputF key val false l acc = acc ++ insE key val (dropE key l)
  | [], acc, _ => by rw [rputF, if_neg (by simp)]; rfl
  | x :: r, acc, ho => by
    have hs := List.pairwise_cons.1 (show List.Pairwise (fun a b => ltK a b = true) (x.1 :: r.map (·.1)) from ho.up)
    have hr : OkL r := ⟨hs.2, fun y hy => ho.ok y (List.mem_cons_of_mem _ hy)⟩
    have hgt : ltK x.1 key = false → ∀ y ∈ dropE key r, ltK key y.1 = true := fun hx y hy => by
      have h1 : ltK x.1 y.1 = true := hs.1 y.1 (List.mem_map_of_mem (List.mem_filter.1 hy).1)
      rcases ltK_tri x.1 key with h | h | h
      · rw [h] at hx; cases hx
      · rw [← h]; exact h1
      · exact ltK_tr h h1
    rw [rputF]
    cases hx : ltK x.1 key
    · rw [if_pos ⟨rfl, rfl⟩, rput_drop]
      by_cases h : x.1 = key
      · rw [if_pos h, drop_yes h, ins_head (hgt hx)]; simp
      · rw [if_neg h, drop_no h, insE, if_pos (by
          rcases ltK_tri x.1 key with h1 | h1 | h1
          · rw [h1] at hx; cases hx
          · exact absurd h1 h
          · exact h1)]; simp
    · have hne := ltK_ne hx
      rw [if_neg (by simp), if_neg hne, rput_is r _ hr, drop_no hne, insE, if_neg (by rw [ltK_as hx]; simp)]; simp
def rputT (l : List Ent) (key val : ByteArray) : List Ent × Int := if keyT key = true ∧ val.size ≤ 120 then (rputF key val false l [], 0) else (l, 1)
theorem rput_step {key val : ByteArray} {laid : Bool} {k u : ByteArray} {r acc : List Ent} (h : laid = true ∨ ltK k key = true) : rputF key val laid ((k, u) :: r) acc = rputF key val laid r (if k = key then acc else acc ++ [(k, u)]) := by
  rw [rputF, if_neg (by rcases h with h | h <;> simp [h])]
theorem rput_lay {key val : ByteArray} {k u : ByteArray} {r acc : List Ent} (h : ltK k key = false) : rputF key val false ((k, u) :: r) acc = rputF key val true r (if k = key then acc ++ [(key, val)] else (acc ++ [(key, val)]) ++ [(k, u)]) := by
  rw [rputF, if_pos ⟨rfl, h⟩]
set_option maxRecDepth 100000 in
set_option maxHeartbeats 8000000 in
theorem rput_any (Z : Nat → Prop) (v : Value) (l : List Ent) (key val : ByteArray) (w : World) (h : PqZ Z w v l) (hl : l.length ≤ 100000) (hk : key.size ≤ maxLen) (hv : val.size ≤ maxLen) :
    Calls Try.prog 24 #[v, .string key, .string val] w (PqTo v (rputT l key val) w) := by
  obtain ⟨a, c, rfl⟩ := h.form
  have H := Lib.hid h
  have HL := Lib.hid hl
  obtain ⟨R, hR⟩ : ∃ R, R = rputF key val false l [] := ⟨_, rfl⟩
  obtain ⟨PS, hPS⟩ : ∃ PS, PS = PqTo (.slice a l.length c) (rputT l key val) w := ⟨_, rfl⟩
  rw [← hPS]
  have HPS := Lib.hid hPS
  have HRR : Hid (rputT l key val = if keyT key = true ∧ val.size ≤ 120 then (R, 0) else (l, 1)) := by show _ = _; rw [hR]; rfl
  have HR : Hid (R = rputF key val false (l.drop 0) []) := by show _ = _; rw [hR]; rfl
  clear h hR hPS
  unfold maxLen at hv
  go_enter Try.func24, Try.ntmps24
  go_wp2_with fail
  refine (tkey_any key w hk).mono ?_
  rintro e w1 ⟨rfl, rfl⟩
  cases hkt : keyT key
  · go_wp2
    rw [HPS.out, HRR.out, if_neg (by simp [hkt])]
    exact ⟨_, rfl, H.out.row, fun k hk => .inl hk, Below.refl _ _⟩
  by_cases hvs : ¬ val.size ≤ 120
  · have d : (120 : Int) < (val.size : Int) := by omega
    have HQ := Lib.hid hvs
    clear hvs
    go_wp2
    rw [HPS.out, HRR.out, if_neg (fun h => HQ.out h.2)]
    exact ⟨_, rfl, H.out.row, fun k hk => .inl hk, Below.refl _ _⟩
  have hvs : val.size ≤ 120 := by omega
  have d : ¬ (120 : Int) < (val.size : Int) := by omega
  have HRS : Hid (rputT l key val = (R, 0)) := by show _ = _; rw [HRR.out, if_pos ⟨hkt, hvs⟩]
  clear HRR hkt
  go_wp2_with fail
  go_loopw [8, 9, 10] (fun lv ld i wr => ∃ (j : Nat) (acc : List Ent) (laid : Bool), j ≤ l.length ∧ acc.length ≤ j + 1 ∧ (laid = false → acc.length ≤ j) ∧ i = .int .i64 j ∧ ld = .bool laid ∧ Hid (R = rputF key val laid (l.drop j) acc) ∧ Hid (Rw kPq wr w.heap.size lv acc) ∧ Hid (Below w.heap.size w wr)) (fun _ _ i _ => ((l.length : Int) - RowKit.intOf i).toNat)
  case atStart => exact ⟨0, [], false, Nat.zero_le _, by simp, by simp, rfl, rfl, HR, Rw.nil _ _, Below.refl _ _⟩
  case round =>
    clear HR
    obtain ⟨j, acc, laid, hj, hal, hlf, rfl, rfl, HR, HP, HB⟩ := hrel
    obtain ⟨la, lc, rfl, _, _⟩ := HP.out.form
    by_cases hlt : j < l.length
    · have HRJ : R = rputF key val laid (l[j] :: l.drop (j + 1)) acc := by rw [HR.out, List.drop_eq_getElem_cons hlt]
      obtain ⟨g, hga, c0, c1⟩ := (H.out.keep HB.out).at j hlt
      have hga : a = some ⟨g, 0, none⟩ := hga
      subst hga
      have h0j : (0 : Int) ≤ (j : Int) := by omega
      have h1j : (j : Int) < (l.length : Int) := by omega
      obtain ⟨k, hk⟩ : ∃ k, k = l[j].1 := ⟨_, rfl⟩
      obtain ⟨u, hu⟩ : ∃ u, u = l[j].2 := ⟨_, rfl⟩
      have hku : l[j] = (k, u) := by rw [hk, hu]
      have HCA : Hid (∀ W, Below w.heap.size w W → W.cell? ⟨g, j * 2, none⟩ = some (.string k) ∧ W.cell? ⟨g, j * 2 + 1, none⟩ = some (.string u)) := fun W hb => by
        obtain ⟨g2, hg2, d0, d1⟩ := (H.out.keep hb).at j hlt
        injection hg2 with hg2
        injection hg2 with hg2 _ _
        subst hg2
        rw [hk, hu]
        exact ⟨d0, d1⟩
      rw [← hk] at c0
      rw [← hu] at c1
      rw [hku] at HRJ
      have hl1 : acc.length + 1 ≤ 199999 := by have := HL.out; omega
      clear hk hu hku HR
      have hge := fun W => str_geq k key W
      cases laid with
      | true =>
        by_cases he : k = key
        · have hq : (k.toList == key.toList) = true := by rw [beq_key]; simpa using he
          have HRN : Hid (R = rputF key val true (l.drop (j + 1)) acc) := by show _ = _; rw [HRJ, rput_step (.inl rfl), if_pos he]
          clear HRJ he HCA hge
          go_wp2
          go_roundw
          case rel => exact ⟨j + 1, acc, true, by omega, by omega, (fun h => by cases h), by go_num, rfl, HRN, HP, HB⟩
          case measure => simp [RowKit.intOf]; omega
        · have hq : (k.toList == key.toList) = false := by rw [beq_key]; simpa using he
          have HRN : Hid (R = rputF key val true (l.drop (j + 1)) (acc ++ [(k, u)])) := by show _ = _; rw [HRJ, rput_step (.inl rfl), if_neg he]
          have hla : acc.length + 1 ≤ j + 1 + 1 := by omega
          clear HRJ he HCA hge hlf
          obtain ⟨W4a, hW4a⟩ : ∃ W, W = wr.alloc (.cells #[.string k, .string u] 68 (0, 0)) := ⟨_, rfl⟩
          have BX4 : Hid (Box W4a wr.heap.size 68 #[.string k, .string u]) := by show Box _ _ _ _; rw [hW4a]; exact Box.new _ _ _
          have hb4 : Below wr.heap.size wr W4a := by rw [hW4a]; exact (Below.refl _ _).alloc (Nat.le_refl _) _
          have HW4 := Lib.hid hW4a.symm
          have HP4a := Lib.hid (HP.out.keep hb4)
          have HB4a := Lib.hid (HB.out.trans (hb4.mono HB.out.size))
          clear hW4a hb4
          go_wp2_with (at_builtin; refine wp_rw_push kPq_ok Try.underlying29 _ rfl _ _ rfl w.heap.size _ acc rfl (by rw [HW4.out]; exact HP4a.out) wr.heap.size 1 (k, u) rfl ?c1 (by omega) (by rw [HW4.out]; exact HB4a.out.size) ?_)
          case c1 =>
            intro j2 uu hj2
            try rw [HW4.out]
            first | exact hj2 | exact BX4.out.cell j2 uu (by rw [← hj2]; show #[Value.string k, Value.string u][j2]? = [Value.string k, Value.string u][j2]?; simp)
          intro v4 W4 hk4 hg4 ho4
          rw [HW4.out] at hg4
          have hlb4 := HP4a.out.own_block
          have hc4 := Chg.grown hg4 (fun k (hk : _ = some k) => (by simpa using hk : k ∈ (Value.ownBlock _).toList))
          have HB4 := Lib.hid (HB4a.out.trans (hc4.below HB4a.out.size (fun k hk => hlb4 k (by simpa using hk))))
          have HP4 := Lib.hid hk4
          obtain ⟨la4, lc4, rfl, _, _⟩ := HP4.out.form
          clear hk4 hg4 ho4 hlb4 hc4 BX4 HW4 HP4a HB4a
          clear c0 c1 HP HB
          go_wp2
          go_roundw
          case rel => exact ⟨j + 1, _, true, by omega, by simpa using hla, (fun h => by cases h), by go_num, rfl, HRN, HP4, HB4⟩
          case measure => simp [RowKit.intOf]; omega
      | false =>
        have hlf := hlf rfl
        cases hx : ltK k key
        · have hq0 : ∀ W, (binOp .geq 9 (.string k) (.string key)).run Try.prog W = .ok (.bool true) W := fun W => by rw [hge W, hx]; rfl
          have HRN1 := rput_lay (val := val) (u := u) (r := l.drop (j + 1)) (acc := acc) hx
          rw [← HRJ] at HRN1
          clear HRJ hge hx
          by_cases he : k = key
          · have hq : (k.toList == key.toList) = true := by rw [beq_key]; simpa using he
            have HRN : Hid (R = rputF key val true (l.drop (j + 1)) (acc ++ [(key, val)])) := by show _ = _; rw [HRN1, if_pos he]
            have hla : acc.length + 1 ≤ j + 1 + 1 := by omega
            have HQ0 := Lib.hid hq0
            have HQ1 := Lib.hid hq
            clear HRN1 he hq
            obtain ⟨W4a, hW4a⟩ : ∃ W, W = wr.alloc (.cells #[.string key, .string val] 68 (0, 0)) := ⟨_, rfl⟩
            have BX4 : Hid (Box W4a wr.heap.size 68 #[.string key, .string val]) := by show Box _ _ _ _; rw [hW4a]; exact Box.new _ _ _
            have hb4 : Below wr.heap.size wr W4a := by rw [hW4a]; exact (Below.refl _ _).alloc (Nat.le_refl _) _
            have HW4 := Lib.hid hW4a.symm
            have HP4a := Lib.hid (HP.out.keep hb4)
            have HB4a := Lib.hid (HB.out.trans (hb4.mono HB.out.size))
            clear hW4a hb4
            go_wp2_with (at_builtin; refine wp_rw_push kPq_ok Try.underlying29 _ rfl _ _ rfl w.heap.size _ acc rfl (by rw [HW4.out]; exact HP4a.out) wr.heap.size 1 (key, val) rfl ?c1 (by omega) (by rw [HW4.out]; exact HB4a.out.size) ?_)
            case c1 =>
              intro j2 uu hj2
              try rw [HW4.out]
              first | exact hj2 | exact BX4.out.cell j2 uu (by rw [← hj2]; show #[Value.string key, Value.string val][j2]? = [Value.string key, Value.string val][j2]?; simp)
            intro v4 W4 hk4 hg4 ho4
            rw [HW4.out] at hg4
            have hlb4 := HP4a.out.own_block
            have hc4 := Chg.grown hg4 (fun k (hk : _ = some k) => (by simpa using hk : k ∈ (Value.ownBlock _).toList))
            have HB4 := Lib.hid (HB4a.out.trans (hc4.below HB4a.out.size (fun k hk => hlb4 k (by simpa using hk))))
            have HP4 := Lib.hid hk4
            obtain ⟨la4, lc4, rfl, _, _⟩ := HP4.out.form
            clear hk4 hg4 ho4 hlb4 hc4 BX4 HW4 HP4a HB4a
            clear HP HB c0 c1
            obtain ⟨c0, c1⟩ := HCA.out W4 HB4.out
            have hq := HQ1.out
            go_wp2
            go_roundw
            case rel => exact ⟨j + 1, _, true, by omega, by simpa using hla, (fun h => by cases h), by go_num, rfl, HRN, HP4, HB4⟩
            case measure => simp [RowKit.intOf]; omega
          · have hq : (k.toList == key.toList) = false := by rw [beq_key]; simpa using he
            have HRN : Hid (R = rputF key val true (l.drop (j + 1)) ((acc ++ [(key, val)]) ++ [(k, u)])) := by show _ = _; rw [HRN1, if_neg he]
            have hlen : (acc ++ [(key, val)]).length ≤ j + 1 := by rw [List.length_append, List.length_singleton]; omega
            have hlen4 : (acc ++ [(key, val)]).length + 1 ≤ 200000 := by rw [List.length_append, List.length_singleton]; omega
            have HQ1 := Lib.hid hq
            have HL1 := Lib.hid hlen
            have HL4 := Lib.hid hlen4
            clear HRN1 he hq hlen hlen4
            obtain ⟨W4a, hW4a⟩ : ∃ W, W = wr.alloc (.cells #[.string key, .string val] 68 (0, 0)) := ⟨_, rfl⟩
            have BX4 : Hid (Box W4a wr.heap.size 68 #[.string key, .string val]) := by show Box _ _ _ _; rw [hW4a]; exact Box.new _ _ _
            have hb4 : Below wr.heap.size wr W4a := by rw [hW4a]; exact (Below.refl _ _).alloc (Nat.le_refl _) _
            have HW4 := Lib.hid hW4a.symm
            have HP4a := Lib.hid (HP.out.keep hb4)
            have HB4a := Lib.hid (HB.out.trans (hb4.mono HB.out.size))
            clear hW4a hb4
            go_wp2_with (at_builtin; refine wp_rw_push kPq_ok Try.underlying29 _ rfl _ _ rfl w.heap.size _ acc rfl (by rw [HW4.out]; exact HP4a.out) wr.heap.size 1 (key, val) rfl ?c1 (by omega) (by rw [HW4.out]; exact HB4a.out.size) ?_)
            case c1 =>
              intro j2 uu hj2
              try rw [HW4.out]
              first | exact hj2 | exact BX4.out.cell j2 uu (by rw [← hj2]; show #[Value.string key, Value.string val][j2]? = [Value.string key, Value.string val][j2]?; simp)
            intro v4 W4 hk4 hg4 ho4
            rw [HW4.out] at hg4
            have hlb4 := HP4a.out.own_block
            have hc4 := Chg.grown hg4 (fun k (hk : _ = some k) => (by simpa using hk : k ∈ (Value.ownBlock _).toList))
            have HB4 := Lib.hid (HB4a.out.trans (hc4.below HB4a.out.size (fun k hk => hlb4 k (by simpa using hk))))
            have HP4 := Lib.hid hk4
            obtain ⟨la4, lc4, rfl, _, _⟩ := HP4.out.form
            clear hk4 hg4 ho4 hlb4 hc4 BX4 HW4 HP4a HB4a
            clear HP HB c0 c1
            obtain ⟨acc4, hacc4⟩ : ∃ acc4, acc4 = acc ++ [(key, val)] := ⟨_, rfl⟩
            have HP5 : Hid (Rw kPq W4 w.heap.size (.slice la4 acc4.length lc4) acc4) := by rw [hacc4]; exact HP4
            have hlen := HL1.out
            have hlen4 := HL4.out
            have HRN2 : Hid (R = rputF key val true (l.drop (j + 1)) (acc4 ++ [(k, u)])) := by rw [hacc4]; exact HRN
            rw [← hacc4] at hlen hlen4 ⊢
            clear hacc4 HP4 HRN HL1 HL4
            have hla : acc4.length + 1 ≤ j + 1 + 1 := by omega
            obtain ⟨c0, c1⟩ := HCA.out W4 HB4.out
            have hq := HQ1.out
            obtain ⟨W6a, hW6a⟩ : ∃ W, W = W4.alloc (.cells #[.string k, .string u] 68 (0, 0)) := ⟨_, rfl⟩
            have BX6 : Hid (Box W6a W4.heap.size 68 #[.string k, .string u]) := by show Box _ _ _ _; rw [hW6a]; exact Box.new _ _ _
            have hb6 : Below W4.heap.size W4 W6a := by rw [hW6a]; exact (Below.refl _ _).alloc (Nat.le_refl _) _
            have HW6 := Lib.hid hW6a.symm
            have HP6a := Lib.hid (HP5.out.keep hb6)
            have HB6a := Lib.hid (HB4.out.trans (hb6.mono HB4.out.size))
            clear hW6a hb6
            go_wp2_with (at_builtin; refine wp_rw_push kPq_ok Try.underlying29 _ rfl _ _ rfl w.heap.size _ acc4 rfl (by rw [HW6.out]; exact HP6a.out) W4.heap.size 1 (k, u) rfl ?c1 (by omega) (by rw [HW6.out]; exact HB6a.out.size) ?_)
            case c1 =>
              intro j2 uu hj2
              try rw [HW6.out]
              first | exact hj2 | exact BX6.out.cell j2 uu (by rw [← hj2]; show #[Value.string k, Value.string u][j2]? = [Value.string k, Value.string u][j2]?; simp)
            intro v6 W6 hk6 hg6 ho6
            rw [HW6.out] at hg6
            have hlb6 := HP6a.out.own_block
            have hc6 := Chg.grown hg6 (fun k (hk : _ = some k) => (by simpa using hk : k ∈ (Value.ownBlock _).toList))
            have HB6 := Lib.hid (HB6a.out.trans (hc6.below HB6a.out.size (fun k hk => hlb6 k (by simpa using hk))))
            have HP6 := Lib.hid hk6
            obtain ⟨la6, lc6, rfl, _, _⟩ := HP6.out.form
            clear hk6 hg6 ho6 hlb6 hc6 BX6 HW6 HP6a HB6a
            clear c0 c1 HP5 HB4
            go_wp2
            go_roundw
            case rel => exact ⟨j + 1, _, true, by omega, by simpa using hla, (fun h => by cases h), by go_num, rfl, HRN2, HP6, HB6⟩
            case measure => simp [RowKit.intOf]; omega
        · have hq0 : ∀ W, (binOp .geq 9 (.string k) (.string key)).run Try.prog W = .ok (.bool false) W := fun W => by rw [hge W, hx]; rfl
          have he := ltK_ne hx
          have hq : (k.toList == key.toList) = false := by rw [beq_key]; simpa using he
          have HRN : Hid (R = rputF key val false (l.drop (j + 1)) (acc ++ [(k, u)])) := by show _ = _; rw [HRJ, rput_step (.inr hx), if_neg he]
          have hla : acc.length + 1 ≤ j + 1 + 1 := by omega
          have hlb : acc.length + 1 ≤ j + 1 := by omega
          clear HRJ he HCA hge hx
          obtain ⟨W4a, hW4a⟩ : ∃ W, W = wr.alloc (.cells #[.string k, .string u] 68 (0, 0)) := ⟨_, rfl⟩
          have BX4 : Hid (Box W4a wr.heap.size 68 #[.string k, .string u]) := by show Box _ _ _ _; rw [hW4a]; exact Box.new _ _ _
          have hb4 : Below wr.heap.size wr W4a := by rw [hW4a]; exact (Below.refl _ _).alloc (Nat.le_refl _) _
          have HW4 := Lib.hid hW4a.symm
          have HP4a := Lib.hid (HP.out.keep hb4)
          have HB4a := Lib.hid (HB.out.trans (hb4.mono HB.out.size))
          clear hW4a hb4
          go_wp2_with (at_builtin; refine wp_rw_push kPq_ok Try.underlying29 _ rfl _ _ rfl w.heap.size _ acc rfl (by rw [HW4.out]; exact HP4a.out) wr.heap.size 1 (k, u) rfl ?c1 (by omega) (by rw [HW4.out]; exact HB4a.out.size) ?_)
          case c1 =>
            intro j2 uu hj2
            try rw [HW4.out]
            first | exact hj2 | exact BX4.out.cell j2 uu (by rw [← hj2]; show #[Value.string k, Value.string u][j2]? = [Value.string k, Value.string u][j2]?; simp)
          intro v4 W4 hk4 hg4 ho4
          rw [HW4.out] at hg4
          have hlb4 := HP4a.out.own_block
          have hc4 := Chg.grown hg4 (fun k (hk : _ = some k) => (by simpa using hk : k ∈ (Value.ownBlock _).toList))
          have HB4 := Lib.hid (HB4a.out.trans (hc4.below HB4a.out.size (fun k hk => hlb4 k (by simpa using hk))))
          have HP4 := Lib.hid hk4
          obtain ⟨la4, lc4, rfl, _, _⟩ := HP4.out.form
          clear hk4 hg4 ho4 hlb4 hc4 BX4 HW4 HP4a HB4a
          clear c0 c1 HP HB
          go_wp2
          go_roundw
          case rel => exact ⟨j + 1, _, false, by omega, by simpa using hla, (fun _ => by simpa using hlb), by go_num, rfl, HRN, HP4, HB4⟩
          case measure => simp [RowKit.intOf]; omega
    · have hjl : j = l.length := by omega
      subst hjl
      have hl1 : acc.length + 1 ≤ 199999 + 1 := by have := HL.out; omega
      cases laid with
      | true =>
        have HRE : Hid (R = acc) := by show _ = _; rw [HR.out, List.drop_of_length_le (by omega)]; rfl
        go_wp2
        rw [HPS.out, HRS.out, HRE.out]
        exact ⟨_, rfl, HP.out.low (Nat.zero_le _), fun k hk => .inr (HP.out.own_block k hk), HB.out⟩
      | false =>
        have HRE : Hid (R = acc ++ [(key, val)]) := by show _ = _; rw [HR.out, List.drop_of_length_le (by omega)]; rfl
        obtain ⟨W4a, hW4a⟩ : ∃ W, W = wr.alloc (.cells #[.string key, .string val] 68 (0, 0)) := ⟨_, rfl⟩
        have BX4 : Hid (Box W4a wr.heap.size 68 #[.string key, .string val]) := by show Box _ _ _ _; rw [hW4a]; exact Box.new _ _ _
        have hb4 : Below wr.heap.size wr W4a := by rw [hW4a]; exact (Below.refl _ _).alloc (Nat.le_refl _) _
        have HW4 := Lib.hid hW4a.symm
        have HP4a := Lib.hid (HP.out.keep hb4)
        have HB4a := Lib.hid (HB.out.trans (hb4.mono HB.out.size))
        clear hW4a hb4
        go_wp2_with (at_builtin; refine wp_rw_push kPq_ok Try.underlying29 _ rfl _ _ rfl w.heap.size _ acc rfl (by rw [HW4.out]; exact HP4a.out) wr.heap.size 1 (key, val) rfl ?c1 (by omega) (by rw [HW4.out]; exact HB4a.out.size) ?_)
        case c1 =>
          intro j2 uu hj2
          try rw [HW4.out]
          first | exact hj2 | exact BX4.out.cell j2 uu (by rw [← hj2]; show #[Value.string key, Value.string val][j2]? = [Value.string key, Value.string val][j2]?; simp)
        intro v4 W4 hk4 hg4 ho4
        rw [HW4.out] at hg4
        have hlb4 := HP4a.out.own_block
        have hc4 := Chg.grown hg4 (fun k (hk : _ = some k) => (by simpa using hk : k ∈ (Value.ownBlock _).toList))
        have HB4 := Lib.hid (HB4a.out.trans (hc4.below HB4a.out.size (fun k hk => hlb4 k (by simpa using hk))))
        have HP4 := Lib.hid hk4
        obtain ⟨la4, lc4, rfl, _, _⟩ := HP4.out.form
        clear hk4 hg4 ho4 hlb4 hc4 BX4 HW4 HP4a HB4a
        clear HP HB
        go_wp2
        rw [HPS.out, HRS.out, HRE.out]
        refine ⟨_, ?_, HP4.out.low (Nat.zero_le _), fun k hk => .inr (HP4.out.own_block k hk), HB4.out⟩
        simp
end Go.Proofs.Ytbeldjijnjgbfaa
