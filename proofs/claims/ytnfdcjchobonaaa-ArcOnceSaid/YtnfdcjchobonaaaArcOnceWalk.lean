/-
  The walk of ArcOnce.
-/
import Derived.Test.YtnfdcjchobonaaaArcLive
import Derived.Laws.IdiomStrings
namespace Go.Proofs.Ytnfdcjchobonaaa.arcOnce
open Go.RowKit Go.ChangeShapes Go.WideShapes Go.ChangeAt

def keyN (i : Nat) : ByteArray := ⟨#[107, UInt8.ofNat i]⟩
theorem key_emp (i : Nat) : keyN i ≠ emp := by
  intro h
  have := congrArg ByteArray.size h
  exact absurd this (show (2 : Nat) ≠ 0 by decide)
theorem key_inj {i j : Nat} (hi : i < 256) (hj : j < 256) (h : keyN i = keyN j) : i = j := by
  have h1 : (#[107, UInt8.ofNat i] : Array UInt8) = #[107, UInt8.ofNat j] := congrArg ByteArray.data h
  simp at h1
  have h2 := congrArg UInt8.toNat h1
  rw [UInt8.toNat_ofNat', UInt8.toNat_ofNat'] at h2
  omega
theorem conv2 (w : World) (i : Nat) (hi : i < 256) : (convert 41 9 (.slice (some ⟨w.heap.size, 0, none⟩) 2 2)).run Try.prog (w.alloc (.cells #[.int .u8 107, .int .u8 (i : Int)] 5 (0, 0))) = .ok (.string (keyN i)) (w.alloc (.cells #[.int .u8 107, .int .u8 (i : Int)] 5 (0, 0))) := by
  refine run_convert_bytes_back (P := Try.prog) _ 41 9 5 ⟨w.heap.size, 0, none⟩ 2 [107, UInt8.ofNat i] Try.underlying41 Try.underlying5 Try.underlying9 ?_
  intro j hj
  rw [add_plain]
  match j, hj with
  | 0, _ => exact boxed0 _ _ _ _ 0 _ rfl
  | 1, _ =>
    rw [show ([107, UInt8.ofNat i] : List UInt8)[1] = UInt8.ofNat i from rfl, UInt8.toNat_ofNat', Nat.mod_eq_of_lt hi]
    exact boxed0 _ _ _ _ 1 _ rfl

/-- Behind i keys, each asked once. -/
structure OnceI (c i : Nat) (d : ArcD) : Prop where
  cz : d.c = (c : Int)
  l2 : d.l 2 = ((List.range i).drop (i - c)).map keyN
  l3 : d.l 3 = []
  l4 : d.l 4 = []
  l5 : d.l 5 = []
theorem once_new (c : Nat) : OnceI c 0 (newD c) := ⟨rfl, by simp [newD], rfl, rfl, rfl⟩
theorem once_len {c i : Nat} {d : ArcD} (h : OnceI c i d) : (d.l 2).length = min i c := by
  rw [h.l2]
  simp
  omega
theorem once_ask {c i : Nat} {d : ArcD} (h : OnceI c i d) (hc : 1 ≤ c) (hi : i < 200) :
    (askA d (keyN i)).2.1 = false ∧ (askA d (keyN i)).2.2 = (if c ≤ i then keyN (i - c) else emp) ∧ OnceI c (i + 1) (askA d (keyN i)).1 := by
  have h2 : hasA d 2 (keyN i) = false := by
    unfold hasA
    rw [hasK_not, h.l2]
    intro hm
    obtain ⟨j, hj, e⟩ := List.mem_map.1 hm
    have hj' : j < i := by simpa using List.mem_of_mem_drop hj
    have := key_inj (by omega) (by omega) e
    omega
  have h3 : hasA d 3 (keyN i) = false := by unfold hasA; rw [h.l3]; rfl
  have h4 : hasA d 4 (keyN i) = false := by unfold hasA; rw [h.l4]; rfl
  have h5 : hasA d 5 (keyN i) = false := by unfold hasA; rw [h.l5]; rfl
  have hl := once_len h
  have hlen : ((List.range i).drop (i - c)).length = min i c := by simp; omega
  have ho : onceA d = ((min i c : Nat) : Int) := by unfold onceA; rw [hl, h.l4]; simp
  have ha : allA d = ((min i c : Nat) : Int) := by unfold allA; rw [ho, h.l3, h.l5]; simp
  have hask : askA d (keyN i) = ((addA (newA d).1 2 (keyN i)), false, (newA d).2) := by
    unfold askA keepA
    rw [if_neg (key_emp i), if_neg (by rw [h2]; simp), if_neg (by rw [h3]; simp), if_neg (by rw [h4]; simp), if_neg (by rw [h5]; simp)]
  rw [hask]
  have hadd : ∀ (e : ArcD) (r : List ByteArray), e.c = d.c → e.l 2 = r → e.l 3 = [] → e.l 4 = [] → e.l 5 = [] → r ++ [keyN i] = ((List.range (i + 1)).drop (i + 1 - c)).map keyN → OnceI c (i + 1) (addA e 2 (keyN i)) := by
    intro e r e1 e2 e3 e4 e5 e6
    exact ⟨e1.trans h.cz, by unfold addA ArcD.put; simp only [updA, if_true]; rw [e2]; exact e6, by unfold addA ArcD.put; simp [updA, e3], by unfold addA ArcD.put; simp [updA, e4], by unfold addA ArcD.put; simp [updA, e5]⟩
  by_cases hci : c ≤ i
  · rw [if_pos hci]
    have hd : (List.range i).drop (i - c) = (i - c) :: (List.range i).drop (i - c + 1) := by
      rw [List.drop_eq_getElem_cons (by simp; omega)]
      simp
    have hnew : newA d = (d.put 2 (((List.range i).drop (i - c + 1)).map keyN), keyN (i - c)) := by
      unfold newA oldA
      rw [if_pos (by rw [ho, h.cz]; omega), if_pos (by rw [hl, h.cz]; omega), h.l2, hd]
      rfl
    rw [hnew]
    refine ⟨rfl, rfl, hadd _ (((List.range i).drop (i - c + 1)).map keyN) rfl (by unfold ArcD.put; simp only [updA, if_true]) (by unfold ArcD.put; simp [updA, h.l3]) (by unfold ArcD.put; simp [updA, h.l4]) (by unfold ArcD.put; simp [updA, h.l5]) ?_⟩
    rw [List.range_succ, show i + 1 - c = i - c + 1 by omega, List.drop_append_of_le_length (by simp; omega), List.map_append]
    rfl
  · rw [if_neg hci]
    have hnew : newA d = (d, emp) := by
      unfold newA
      rw [if_neg (by rw [ho, h.cz]; omega), if_neg (by rw [ha, h.cz]; omega)]
    rw [hnew]
    refine ⟨rfl, rfl, hadd _ _ rfl h.l2 h.l3 h.l4 h.l5 ?_⟩
    rw [List.range_succ, show i - c = 0 by omega, show i + 1 - c = 0 by omega, List.drop_zero, List.drop_zero, List.map_append]
    rfl

set_option maxRecDepth 100000 in
set_option maxHeartbeats 4000000 in
theorem walk (w : World) (a0 : Int) (_w0 : (Lit.int .i64 a0).wf = true) (a1 : Int) (_w1 : (Lit.int .i64 a1).wf = true) :
    Calls Try.prog 7 #[.int .i64 a0, .int .i64 a1] w fun e w' => e = .returned (.bool true) ∧ Below w.heap.size w w' := by
  have HLV := Lib.hid (live_any w)
  by_cases hc0 : a0 < 1
  · have e2 : decide (a0 < 1) = true := decide_eq_true hc0
    go_enter Try.func7, Try.ntmps7
    go_wp2_with fail
    refine HLV.out.mono ?_
    rintro e w2 ⟨rfl, hb⟩
    have HB2 := Lib.hid hb
    clear hb
    go_wp2
    go_ret
    exact ⟨rfl, HB2.out⟩
  · have e2 : decide (a0 < 1) = false := decide_eq_false hc0
    by_cases hc1 : 64 < a0
    · have e3 : decide (64 < a0) = true := decide_eq_true hc1
      go_enter Try.func7, Try.ntmps7
      go_wp2_with fail
      refine HLV.out.mono ?_
      rintro e w2 ⟨rfl, hb⟩
      have HB2 := Lib.hid hb
      clear hb
      go_wp2
      go_ret
      exact ⟨rfl, HB2.out⟩
    · have e3 : decide (64 < a0) = false := decide_eq_false hc1
      by_cases hc2 : a1 < 0
      · have e4 : decide (a1 < 0) = true := decide_eq_true hc2
        go_enter Try.func7, Try.ntmps7
        go_wp2_with fail
        refine HLV.out.mono ?_
        rintro e w2 ⟨rfl, hb⟩
        have HB2 := Lib.hid hb
        clear hb
        go_wp2
        go_ret
        exact ⟨rfl, HB2.out⟩
      · have e4 : decide (a1 < 0) = false := decide_eq_false hc2
        by_cases hc3 : 100 < a1
        · have e5 : decide (100 < a1) = true := decide_eq_true hc3
          go_enter Try.func7, Try.ntmps7
          go_wp2_with fail
          refine HLV.out.mono ?_
          rintro e w2 ⟨rfl, hb⟩
          have HB2 := Lib.hid hb
          clear hb
          go_wp2
          go_ret
          exact ⟨rfl, HB2.out⟩
        · have e5 : decide (100 < a1) = false := decide_eq_false hc3
          obtain ⟨c, rfl⟩ : ∃ c : Nat, a0 = c := ⟨a0.toNat, by omega⟩
          obtain ⟨n, rfl⟩ : ∃ n : Nat, a1 = n := ⟨a1.toNat, by omega⟩
          have h1 : 1 ≤ c := by omega
          have h2 : c ≤ 64 := by omega
          have h3 : n ≤ 100 := by omega
          have HN := Lib.hid (one_new w.heap.size (c : Int) w (Nat.le_refl _) (by omega) (by omega))
          have HOK0 := Lib.hid (new_ok (c := (c : Int)) (by omega) (by omega))
          clear hc0 hc1 hc2 hc3 HLV
          go_enter Try.func7, Try.ntmps7
          go_wp2_with fail
          refine HN.out.mono ?_
          rintro e w1 ⟨b, rfl, ho, hb⟩
          have HO := Lib.hid ho
          have HB := Lib.hid hb
          clear ho hb HN e2 e3 e4 e5
          go_wp2_with fail
          go_loopw [6] (fun s wr => ∃ i : Nat, i ≤ n ∧ s = .int .i64 i ∧ Hid (∃ d, OneA w.heap.size NoP b d wr ∧ OnceI c i d ∧ OkA d ∧ d.len ≤ i) ∧ Hid (Below w.heap.size w wr)) (fun s _ => n - (intOf s).toNat)
          case atStart => exact ⟨0, Nat.zero_le _, rfl, ⟨_, HO.out, once_new c, HOK0.out, Nat.le_refl _⟩, HB⟩
          case round =>
            clear HO HB
            rename_i hkl1
            obtain ⟨i, hi, rfl, HD, HB⟩ := hrel
            obtain ⟨d, HO, hon, hok, hln⟩ := HD.out
            have HO := Lib.hid HO
            by_cases hlt : i < n
            · clear hkl1
              have hcv := fun W => conv2 W i (by omega)
              have hu : IntKind.u8.wrap (i : Int) = (i : Int) := IntWalk.u8_in _ ⟨by omega, by omega⟩
              have hj1 : (i : Int) < (n : Int) := by omega
              obtain ⟨z1, z2, z3⟩ := once_ask hon h1 (by omega)
              have HO' : Hid (OneA w.heap.size NoP b d (wr.alloc (.cells #[.int .u8 107, .int .u8 (i : Int)] 5 (0, 0)))) := OneA.keep fixed_no HO.out ((Below.refl _ _).alloc (Nat.le_refl _) _)
              have HB' : Hid (Below w.heap.size w (wr.alloc (.cells #[.int .u8 107, .int .u8 (i : Int)] 5 (0, 0)))) := HB.out.alloc HB.out.size _
              have HAK := Lib.hid (one_ask fixed_no HO'.out (keyN i) (by omega) hok)
              rw [z1, z2] at HAK
              have HD2 : Hid (OnceI c (i + 1) (askA d (keyN i)).1 ∧ OkA (askA d (keyN i)).1 ∧ (askA d (keyN i)).1.len ≤ i + 1) := ⟨z3, ask_ok hok _, Nat.le_trans (ask_len d _) (by omega)⟩
              generalize (askA d (keyN i)).1 = d2 at *
              clear z1 z2 z3 hon hok hln HO HD
              by_cases hci : c ≤ i
              · rw [if_pos hci] at HAK
                have hcv2 := fun W => conv2 W (i - c) (by omega)
                have hs : IntKind.i64.wrap ((i : Int) - (c : Int)) = ((i - c : Nat) : Int) := by rw [show (i : Int) - (c : Int) = ((i - c : Nat) : Int) by omega]; exact i64_small _ (by omega) (by omega)
                have hu2 : IntKind.u8.wrap ((i - c : Nat) : Int) = ((i - c : Nat) : Int) := IntWalk.u8_in _ ⟨by omega, by omega⟩
                have eg : decide ((c : Int) ≤ (i : Int)) = true := decide_eq_true (by omega)
                have ek : ((keyN (i - c)).toList == (keyN (i - c)).toList) = true := by simp
                generalize i - c = m at *
                generalize hk1 : keyN i = k1 at *
                generalize hk2 : keyN m = k2 at *
                clear hk1 hk2
                have HLT := Lib.hid hlt
                go_wp2_with fail
                refine HAK.out.mono ?_
                rintro e w2 ⟨rfl, ho, hb⟩
                have HO3 := Lib.hid ho
                have HB2 := Lib.hid (HB'.out.trans hb)
                have HO2 : Hid (OneA w.heap.size NoP b d2 (w2.alloc (.cells #[.int .u8 107, .int .u8 (m : Int)] 5 (0, 0)))) := OneA.keep fixed_no HO3.out ((Below.refl _ _).alloc (Nat.le_refl _) _)
                have HB3 : Hid (Below w.heap.size w (w2.alloc (.cells #[.int .u8 107, .int .u8 (m : Int)] 5 (0, 0)))) := HB2.out.alloc HB2.out.size _
                clear ho hb HAK HO' HB' HB HO3 HB2
                go_wp2
                go_roundw
                case rel => exact ⟨i + 1, HLT.out, by go_num, ⟨d2, HO2.out, HD2.out⟩, HB3⟩
                case measure => have := HLT.out; simp [intOf]; omega
              · rw [if_neg hci] at HAK
                have eg : decide ((c : Int) ≤ (i : Int)) = false := decide_eq_false (by omega)
                generalize hk1 : keyN i = k1 at *
                clear hk1
                have HLT := Lib.hid hlt
                go_wp2_with fail
                refine HAK.out.mono ?_
                rintro e w2 ⟨rfl, ho, hb⟩
                have HO2 := Lib.hid ho
                have HB3 := Lib.hid (HB'.out.trans hb)
                clear ho hb HAK HO' HB' HB
                go_wp2
                go_roundw
                case rel => exact ⟨i + 1, HLT.out, by go_num, ⟨d2, HO2.out, HD2.out⟩, HB3⟩
                case measure => have := HLT.out; simp [intOf]; omega
            · have hin : i = n := by omega
              subst hin
              have hl := once_len hon
              have HLI := Lib.hid (one_lists fixed_no HO.out (by omega) hok)
              have HON := Lib.hid hon
              clear hon hok hln HD
              go_wp2_with fail
              refine HLI.out.mono ?_
              rintro e w4 ⟨x2, x3, x4, x5, rfl, hr4, ho, hb⟩
              have HB4 := Lib.hid (HB.out.trans (hb.mono HB.out.size))
              obtain ⟨p2, q2, rfl, _⟩ := hr4.k2.view
              obtain ⟨p3, q3, rfl, _⟩ := hr4.k3.view
              obtain ⟨p4, q4, rfl, _⟩ := hr4.k4.view
              obtain ⟨p5, q5, rfl, _⟩ := hr4.k5.view
              rw [hl, HON.out.l3, HON.out.l4, HON.out.l5]
              have HLV := Lib.hid (live_any w4)
              clear hr4 ho hb HLI hl
              by_cases hnc : c < i
              · have e1 : min i c = c := by omega
                rw [e1]
                have e6 : (c : Int) < (i : Int) := by omega
                go_wp2_with fail
                refine HLV.out.mono ?_
                rintro e w5 ⟨rfl, hb⟩
                have HB5 := Lib.hid (HB4.out.trans (hb.mono HB4.out.size))
                clear hb
                go_wp2
                go_ret
                exact ⟨rfl, HB5.out⟩
              · have e1 : min i c = i := by omega
                rw [e1]
                have e6 : ¬ (c : Int) < (i : Int) := by omega
                go_wp2_with fail
                refine HLV.out.mono ?_
                rintro e w5 ⟨rfl, hb⟩
                have HB5 := Lib.hid (HB4.out.trans (hb.mono HB4.out.size))
                clear hb
                go_wp2
                go_ret
                exact ⟨rfl, HB5.out⟩
end Go.Proofs.Ytnfdcjchobonaaa.arcOnce
