/-
  The contract of the reference's Of.
-/
import Derived.Test.YtljjcchdhnficaaDoorMg22
import Derived.Test.YtljjcchdhnficaaDoorOne
import Derived.Test.YtljjcchdhnficaaDoorMg24
import Derived.Test.YtljjcchdhnficaaDoorMg26
import Derived.Test.YtljjcchdhnficaaDoorFinish
import Derived.Test.YtljjcchdhnficaaDoorMg14
namespace Go.Proofs.YtljjcchdhnficaaDoor
open Go.ChangeShapes Go.WideShapes Go.ChangeAt Go.RowKit

theorem run_nums_push (W : World) (ty : TypeId) (base : Nat) (v : Value) (l : List Nat) (hb : Nums W base v l) (ad : Addr) (c x : Nat) (hcell : W.cell? (ad.add 0) = some (nV x))
    (hbytes : l.length ≤ 100000) (hbase : base ≤ W.heap.size) :
    ∃ v' w', (Builtin.append_ #[66, 66] ty #[v, .slice (some ad) 1 c]).run Tryd.prog W = .ok v' w' ∧ Nums w' base v' (l ++ [x]) ∧ W.grownBy w' v.ownBlock ∧ (v'.ownBlock = v.ownBlock ∨ v'.ownBlock = some W.heap.size) := by
  obtain ⟨i0, hi, hz0, hz1, hz2⟩ := info_parts infoInt
  obtain ⟨v', w', hr, hown, hg, _, hob⟩ := run_append_own_at (P := Tryd.prog) W base 66 ty 3 i0 (.int .i64 0) 1 8 Tryd.underlying66 hi hz0 hz1 hz2 rfl (by decide) v l.length (l.map nV) hb ad 1 c [nV x] rfl
    (by intro j u hu; match j, hu with | 0, hu => (simp only [List.getElem?_cons_zero, Option.some.injEq] at hu; subst hu; exact hcell))
    (by intro u hu; rw [List.mem_singleton] at hu; subst hu; rfl) (by unfold maxLen; omega) (by omega) hbase
  refine ⟨v', w', hr, ?_, hg, hob⟩
  unfold Nums
  rw [List.map_append, List.length_append]
  exact hown
theorem wp_nums_grow {ops : Array Oper} {rest : List Oper} {o : Oper} {a : Act} {Q : Exit → Act → World → Prop} (W : World) (hgd : o.guard = none) (s x : Operand)
    (ho : o.op = .call { callee := .builtin .append, args := #[s, x], argTypes := #[66, 66] })
    (base : Nat) (v : Value) (l : List Nat) (hs : a.eval s = v) (hb : Nums W base v l)
    (ad : Addr) (c y : Nat) (hx : a.eval x = .slice (some ad) 1 c) (hcell : W.cell? (ad.add 0) = some (nV y))
    (hbytes : l.length ≤ 100000) (hbase : base ≤ W.heap.size)
    (h : ∀ v' w', Nums w' base v' (l ++ [y]) → W.grownBy w' v.ownBlock → (v'.ownBlock = v.ownBlock ∨ v'.ownBlock = some W.heap.size) → wpList Tryd.prog ops Q rest (a.put o.dst v') w') : wpList Tryd.prog ops Q (o :: rest) a W := by
  obtain ⟨v', w', hr, h1, h2, h3⟩ := run_nums_push W o.type base v l hb ad c y hcell hbytes hbase
  refine wpList_plain hgd fun K hK => ?_
  unfold Oper.wp execOp
  simp only [ho, resolve, invoke, builtin, Sem.run_bind, Sem.run_pure, Result.andThen_ok, List.map_toArray, List.map_cons, List.map_nil, hs, hx, hr]
  exact hK _ _ (h v' w' h1 h2 h3)
theorem Nums.lt {w : World} {base : Nat} {v : Value} {l : List Nat} (h : Nums w base v l) : ∀ k, v.ownBlock = some k → k < w.heap.size := fun k hk => (World.ownsRow.lt h k hk).2
theorem Nums.of {w w' : World} {base : Nat} {v : Value} {l : List Nat} (h : Nums w base v l) (hb : ∀ k, v.ownBlock = some k → k < w.heap.size → w'.heap[k]? = w.heap[k]?) : Nums w' base v l := by
  refine ⟨h.1, ?_⟩
  rcases h.2 with h2 | ⟨g, cap, cur, rfl, hg, hh, hr⟩
  · exact .inl h2
  · exact .inr ⟨g, cap, cur, rfl, hg, (hb g rfl (lt_of_block hh)).trans hh, hr⟩
theorem Nums.keep {w w' : World} {base : Nat} {v : Value} {l : List Nat} (h : Nums w base v l) (hb : Below w.heap.size w w') : Nums w' base v l := h.of (fun k _ hlt => hb.block k hlt)
theorem Nums.apart {w w' : World} {base : Nat} {v : Value} {l : List Nat} {row : Option Nat} (h : Nums w base v l) (hg : w.grownBy w' row) (hn : ∀ k, v.ownBlock = some k → some k ≠ row) : Nums w' base v l := h.of (fun k hk hlt => hg.block k hlt (hn k hk))

theorem sl_nk {w w' : World} {a : Option Addr} {l : List Nat} (h : Sl w nV a l) (hb : Below w.heap.size w w') : Sl w' nV a l := by
  intro hne
  obtain ⟨b, off, rfl, hlt, hc⟩ := h hne
  exact ⟨b, off, rfl, Nat.lt_of_lt_of_le hlt hb.size, fun i x hx => (hb.cell (p := ⟨b, off + i, none⟩) hlt).trans (hc i x hx)⟩
theorem u8_mod (x : Int) : IntKind.u8.wrap x = x % 256 := by
  unfold IntKind.wrap
  simp [IntKind.bits, IntKind.signed]
/-- The two tables. -/
def k3 (j : Nat) : List Nat := ((prK 310).take j).map (rootL · 3)
def h2 (j : Nat) : List Nat := ((prK 310).take (min j 8)).map (rootL · 2)
theorem k3_succ {j : Nat} (h : j < 64) : ∃ p, (prK 310)[j]? = some p ∧ p ≤ 1000 ∧ k3 (j + 1) = k3 j ++ [rootL p 3] ∧ h2 (j + 1) = if j < 8 then h2 j ++ [rootL p 2] else h2 j := by
  have hl : j < (prK 310).length := by rw [pr_len]; exact h
  refine ⟨(prK 310)[j], List.getElem?_eq_getElem hl, pr_le _ (List.getElem_mem hl), ?_, ?_⟩
  · unfold k3
    rw [List.take_succ_eq_append_getElem hl, List.map_append]
    rfl
  · unfold h2
    by_cases h8 : j < 8
    · rw [if_pos h8, show min (j + 1) 8 = j + 1 by omega, show min j 8 = j by omega, List.take_succ_eq_append_getElem hl, List.map_append]
      rfl
    · rw [if_neg h8, show min (j + 1) 8 = 8 by omega, show min j 8 = 8 by omega]
theorem k3_len (j : Nat) : (k3 j).length ≤ 64 := by unfold k3; rw [List.length_map, List.length_take, pr_len]; omega
theorem h2_len (j : Nat) : (h2 j).length ≤ 64 := by unfold h2; rw [List.length_map, List.length_take, pr_len]; omega
theorem k3_all : k3 64 = kTab := by unfold k3; rw [List.take_of_length_le (by rw [pr_len]; omega)]; exact roots3
theorem h2_all : h2 64 = H0.list := by unfold h2; exact roots2
/-- Both tables in a world, in blocks of their own. -/
def Two (B : Nat) (w0 : World) (x y : Value) (j : Nat) (w : World) : Prop := Nums w B x (k3 j) ∧ Nums w B y (h2 j) ∧ (∀ i, x.ownBlock = some i → y.ownBlock ≠ some i) ∧ Below B w0 w

set_option maxRecDepth 100000 in
set_option maxHeartbeats 8000000 in
theorem rof_any (s : ByteArray) (w : World) (hs : s.size ≤ 900000) :
    Calls Tryd.prog 15 #[.string s] w fun e w' => e = .returned (.string (sha s)) ∧ Below w.heap.size w w' := by
  have HSZ := Lib.hid hs
  have HPAD := Lib.hid (fun W => rpad_any s W (by omega))
  obtain ⟨R, hR⟩ : ∃ R, R = sha s := ⟨_, rfl⟩
  have HR := Lib.hid hR
  rw [← hR]
  clear hs hR
  go_enter Tryd.func15, Tryd.ntmps15
  go_wp2_with fail
  refine (primes_any w).mono ?_
  rintro e w1 ⟨v, rfl, hv, hb⟩
  obtain ⟨pa, pc, rfl, hps⟩ := hv.view
  obtain ⟨pb, po, rfl, hpb, hpc⟩ := hps (by intro e; have := pr_len; rw [e] at this; simp at this)
  have HPC := Lib.hid hpc
  have HB1 := Lib.hid hb
  rw [pr_len]
  clear hv hps hpc hb
  go_wp2_with fail
  go_loopw [4, 5, 6] (fun s t i wr => ∃ (x y : Value) (j : Nat), j ≤ 64 ∧ x = s ∧ y = t ∧ i = .int .i64 j ∧ Hid (Two w1.heap.size w1 x y j wr)) (fun _ _ i _ => 64 - (RowKit.intOf i).toNat)
  case atStart => exact ⟨_, _, 0, Nat.zero_le _, rfl, rfl, rfl, Nums.nil _ _, Nums.nil _ _, (fun _ h => by cases h), Below.refl _ _⟩
  case round =>
    rename_i hkl
    obtain ⟨x, y, j, hj, rfl, rfl, rfl, HT⟩ := hrel
    by_cases hlt : j < 64
    · clear hkl
      have hd64 : decide ((j : Int) < 64) = true := decide_eq_true (by omega)
      have hi64 : (j : Int) < 64 := by omega
      have h0 : (0 : Int) ≤ (j : Int) := by omega
      obtain ⟨p, hp, hp1, hk3, hh2⟩ := k3_succ hlt
      have HK3 := Lib.hid hk3
      have HH2 := Lib.hid hh2
      have q0 := (HT.out.2.2.2.cell (p := ⟨pb, po + j, none⟩) hpb).trans (HPC.out j p hp)
      have HRT := Lib.hid (root_any p 3 hp1 (.inr rfl) wr)
      have HRU := Lib.hid (fun W => root_any p 2 hp1 (.inl rfl) W)
      clear hk3 hh2
      generalize rootL p 3 = r3 at *
      generalize rootL p 2 = r2 at *
      go_wp2_with fail
      refine HRT.out.mono ?_
      rintro e w2 ⟨rfl, hb⟩
      have HB2 := Lib.hid hb
      have q1 := (hb.cell (p := ⟨pb, po + j, none⟩) (lt_of_cell q0)).trans q0
      have HX2 := Lib.hid (HT.out.1.keep hb)
      have HY2 := Lib.hid (HT.out.2.1.keep hb)
      have HBA : Hid (Below w1.heap.size w1 w2) := HT.out.2.2.2.trans (hb.mono HT.out.2.2.2.size)
      have HBX : Hid (∀ o, Below w1.heap.size w1 (w2.alloc o)) := fun o => HBA.out.alloc HBA.out.size o
      have HDJ := Lib.hid HT.out.2.2.1
      clear hb q0 HT
      go_wp2_with (at_builtin; refine wp_nums_grow _ rfl _ _ rfl w1.heap.size x (k3 j) rfl (HX2.out.alloc _) ⟨w2.heap.size, 0, none⟩ 1 r3 rfl (boxed0 _ _ _ _ 0 _ rfl) (Nat.le_trans (k3_len j) (by decide)) (HBX.out _).size ?_)
      intro x' w3 hk hg ho
      have HX3 : Hid (Nums w3 w1.heap.size x' (k3 (j + 1))) := by rw [HK3.out]; exact hk
      have HY3 : Hid (Nums w3 w1.heap.size y (h2 j)) := (HY2.out.alloc _).apart hg (fun k hk e => HDJ.out k e.symm hk)
      have HDJ3 : Hid (∀ i, x'.ownBlock = some i → y.ownBlock ≠ some i) := by
        intro i hi hy
        rcases ho with ho | ho
        · exact HDJ.out i (by rw [← ho]; exact hi) hy
        · rw [ho] at hi
          simp only [Option.some.injEq] at hi
          try rw [size_alloc] at hi
          have := HY2.out.lt i hy
          omega
      have HB3 : Hid (Below w1.heap.size w1 w3) := (HBX.out _).grown hg (HBX.out _).size (fun k hk => HX2.out.own_block k hk)
      have q2 := (HB3.out.cell (p := ⟨pb, po + j, none⟩) hpb).trans (HPC.out j p hp)
      clear hk hg ho q1 HX2 HY2 HBA HBX HDJ
      by_cases h8 : j < 8
      · have hd8 : decide ((j : Int) < 8) = true := decide_eq_true (by omega)
        have hi8 : (j : Int) < 8 := by omega
        have HH3 : Hid (h2 (j + 1) = h2 j ++ [r2]) := by show _ = _; rw [HH2.out, if_pos h8]
        go_wp2_with fail
        refine (HRU.out w3).mono ?_
        rintro e w4 ⟨rfl, hb⟩
        have HX4 := Lib.hid (HX3.out.keep hb)
        have HY4 := Lib.hid (HY3.out.keep hb)
        have HBA : Hid (Below w1.heap.size w1 w4) := HB3.out.trans (hb.mono HB3.out.size)
        have HBX : Hid (∀ o, Below w1.heap.size w1 (w4.alloc o)) := fun o => HBA.out.alloc HBA.out.size o
        clear hb q2 HX3 HY3
        go_wp2_with (at_builtin; refine wp_nums_grow _ rfl _ _ rfl w1.heap.size y (h2 j) rfl (HY4.out.alloc _) ⟨w4.heap.size, 0, none⟩ 1 r2 rfl (boxed0 _ _ _ _ 0 _ rfl) (Nat.le_trans (h2_len j) (by decide)) (HBX.out _).size ?_)
        intro y' w5 hk hg ho
        have HY5 : Hid (Nums w5 w1.heap.size y' (h2 (j + 1))) := by rw [HH3.out]; exact hk
        have HX5 : Hid (Nums w5 w1.heap.size x' (k3 (j + 1))) := (HX4.out.alloc _).apart hg (fun k hk e => HDJ3.out k hk e.symm)
        have HDJ5 : Hid (∀ i, x'.ownBlock = some i → y'.ownBlock ≠ some i) := by
          intro i hi hy
          rcases ho with ho | ho
          · exact HDJ3.out i hi (by rw [← ho]; exact hy)
          · rw [ho] at hy
            simp only [Option.some.injEq] at hy
            try rw [size_alloc] at hy
            have := HX4.out.lt i hi
            omega
        have HB5 : Hid (Below w1.heap.size w1 w5) := (HBX.out _).grown hg (HBX.out _).size (fun k hk => HY4.out.own_block k hk)
        clear hk hg ho HX4 HY4 HBA HBX
        go_wp2
        go_roundw
        case rel => exact ⟨_, _, j + 1, by omega, rfl, rfl, by go_num, HX5.out, HY5.out, HDJ5.out, HB5.out⟩
        case measure => simp [RowKit.intOf]; omega
      · have hd8 : decide ((j : Int) < 8) = false := decide_eq_false (by omega)
        have HH3 : Hid (h2 (j + 1) = h2 j) := by show _ = _; rw [HH2.out, if_neg h8]
        go_wp2
        go_roundw
        case rel => exact ⟨_, _, j + 1, by omega, rfl, rfl, by go_num, HX3.out, by rw [HH3.out]; exact HY3.out, HDJ3.out, HB3.out⟩
        case measure => simp [RowKit.intOf]; omega
    · obtain rfl : j = 64 := by omega
      obtain ⟨hx, hy, -, hb⟩ := HT.out
      rw [k3_all] at hx
      rw [h2_all] at hy
      obtain ⟨ka, kc, rfl, hks⟩ := hx.view
      obtain ⟨ha, hc, rfl, hhs⟩ := hy.view
      have HKS : Hid (∀ W, Below wr.heap.size wr W → Sl W nV ka kTab) := fun W hW => sl_nk hks hW
      have HHS : Hid (∀ W, Below wr.heap.size wr W → Sl W nV ha H0.list) := fun W hW => sl_nk hhs hW
      have HB2 : Hid (Below w.heap.size w wr) := HB1.out.trans (hb.mono HB1.out.size)
      have e64 : kTab.length = 64 := by decide
      have e8 : H0.list.length = 8 := rfl
      rw [e64, e8]
      clear hx hy hks hhs hb HT e64 e8
      go_wp2_with fail
      refine (HPAD.out wr).mono ?_
      rintro e w2 ⟨rfl, hb⟩
      have HB3 := Lib.hid (HB2.out.trans (hb.mono HB2.out.size))
      have HKS := Lib.hid (fun W (hW : Below w2.heap.size w2 W) => HKS.out W (hb.trans (hW.mono hb.size)))
      have HHS := Lib.hid (HHS.out w2 hb)
      obtain ⟨P, hP⟩ : ∃ P, P = padP s := ⟨_, rfl⟩
      have hP2 : s ++ ⟨(padB s.size).toArray⟩ = P := by rw [hP]; rfl
      rw [hP2]
      have HPZ : Hid (P.size % 64 = 0) := by show _ = _; rw [hP]; exact padP_64 s
      have HPL : Hid (P.size ≤ 1000000) := by show _ ≤ _; rw [hP, padP_size]; have := padZ_lt s.size; have := HSZ.out; omega
      obtain ⟨n, hn⟩ : ∃ n, P.size = 64 * n := ⟨P.size / 64, by have := HPZ.out; omega⟩
      have HRD : Hid (R = ⟨(digest (absK H0 P n)).toArray⟩) := by
        show _ = _
        have e1 := sha_padded s
        rw [← hP, hn, Nat.mul_div_cancel_left n (by decide)] at e1
        rw [HR.out]
        unfold sha
        rw [e1]
      have HNL : Hid (n ≤ 20000) := by show n ≤ _; have := HPL.out; omega
      have HN := Lib.hid hn
      clear hb hP hP2 hn HPAD HPZ
      go_wp2_with fail
      go_loopw [5, 7] (fun y i wr => ∃ (k a : Nat) (va : Option Addr) (vc : Nat), k ≤ n ∧ Hid (a = 64 * k) ∧ i = .int .i64 a ∧ Value.slice va 8 vc = y ∧ Hid (Sl wr nV va (absK H0 P k).list) ∧ Hid (Below w2.heap.size w2 wr)) (fun _ i _ => 64 * n - (RowKit.intOf i).toNat)
      case atStart => exact ⟨0, 0, ha, hc, Nat.zero_le _, rfl, rfl, rfl, HHS.out, Below.refl _ _⟩
      case round =>
        rename_i hkl2
        obtain ⟨k, a, va, vc, hk, HA, rfl, rfl, HV, HBL⟩ := hrel
        by_cases hlt2 : k < n
        · clear hkl2
          have d0 : decide ((a : Int) < (P.size : Int)) = true := decide_eq_true (by have := HA.out; have := HN.out; omega)
          have d1 : a < P.size := by have := HA.out; have := HN.out; omega
          have wa : IntKind.i64.wrap ((a : Int) + 64) = (a : Int) + 64 := IntWalk.i64_in _ ⟨by omega, by have := HPL.out; omega⟩
          have s0 : (0 : Int) ≤ (a : Int) := by omega
          have s1 : (a : Int) ≤ (a : Int) + 64 := by omega
          have s2 : (a : Int) + 64 ≤ (P.size : Int) := by have := HA.out; have := HN.out; omega
          have s3 : ((a : Int) + 64).toNat = a + 64 := by omega
          have s4 : a + 64 ≤ P.size := by omega
          have HBK : Hid (absK H0 P (k + 1) = mixS (absK H0 P k) (wk (P.extract a (a + 64)) 64)) := by show _ = _; rw [HA.out]; exact absK_block H0 P k
          have HEX : Hid ((P.extract a (a + 64)).size = 64) := by show _ = _; rw [ByteArray.size_extract]; omega
          have HOK := Lib.hid (absK_ok P H0_ok k)
          have HLT := Lib.hid hlt2
          clear hlt2
          go_wp2_with fail
          refine (one_any va ka vc kc (absK H0 P k) (P.extract a (a + 64)) wr HOK.out HEX.out HV.out (HKS.out wr HBL.out)).mono ?_
          rintro e w3 ⟨y, rfl, hy, hb⟩
          rw [← HBK.out] at hy
          obtain ⟨ya, yc, rfl, hys⟩ := hy.view
          have hyl : (absK H0 P (k + 1)).list.length = 8 := rfl
          rw [hyl]
          have HYS := Lib.hid hys
          have HB4 := Lib.hid (HBL.out.trans (hb.mono HBL.out.size))
          clear hy hys hb hyl
          go_wp2
          go_roundw
          case rel => exact ⟨k + 1, a + 64, ya, yc, HLT.out, (by have := HA.out; show a + 64 = 64 * (k + 1); omega), by simp, rfl, HYS.out, HB4.out⟩
          case measure => have := HA.out; have := HLT.out; simp [RowKit.intOf]; omega
        · have hkn : k = n := by omega
          subst hkn
          have ha2 : a = P.size := by rw [HA.out, HN.out]
          have d0 : decide ((a : Int) < (P.size : Int)) = false := decide_eq_false (by omega)
          have d1 : ¬ a < P.size := by omega
          have HB5 : Hid (Below w.heap.size w wr) := HB3.out.trans (HBL.out.mono HB3.out.size)
          have HOKF := Lib.hid (absK_ok P H0_ok k)
          clear ha2 HKS HHS
          generalize absK H0 P k = fs at *
          obtain ⟨fb, fo, rfl, hfb, hfc⟩ := HV.out (by simp [St.list])
          have HFC : Hid (∀ W, Below wr.heap.size wr W → ∀ i x, fs.list[i]? = some x → W.cell? ⟨fb, fo + i, none⟩ = some (nV x)) := fun W hW i x hx => (hW.cell (p := ⟨fb, fo + i, none⟩) hfb).trans (hfc i x hx)
          clear hfc HV
          go_wp2_with fail
          obtain ⟨w4, rfl⟩ : ∃ w4 : World, w4 = wr := ⟨_, rfl⟩
          go_loopw [8, 9] (fun v i wr => ∃ (x : Value) (q : Nat), q ≤ 8 ∧ x = v ∧ i = .int .i64 q ∧ Hid (Buf wr w4.heap.size x (digK fs q)) ∧ Hid (Below w4.heap.size w4 wr)) (fun _ i _ => 8 - (RowKit.intOf i).toNat)
          case atStart => exact ⟨_, 0, Nat.zero_le _, rfl, rfl, Buf.nil _ _, Below.refl _ _⟩
          case round =>
            rename_i hkl3
            obtain ⟨x, q, hq, rfl, rfl, HBU, HBV⟩ := hrel
            by_cases hlt3 : q < 8
            · clear hkl3
              have d8 : decide ((q : Int) < 8) = true := decide_eq_true (by omega)
              have i8 : (q : Int) < 8 := by omega
              have z0 : (0 : Int) ≤ (q : Int) := by omega
              have hll : q < fs.list.length := by simpa [St.list] using hlt3
              have c0 := HFC.out wr HBV.out q _ (List.getElem?_eq_getElem hll)
              have HDS : Hid (digK fs (q + 1) = digK fs q ++ digB fs.list[q]) := by
                show _ = _
                rw [digK_succ fs q hlt3, List.getD, List.getElem?_eq_getElem hll]
                rfl
              have hx := list_lt HOKF.out q
              rw [List.getD, List.getElem?_eq_getElem hll] at hx
              have hx2 : fs.list[q] < 4294967296 := hx
              have HDL : Hid ((digK fs q).length = 4 * q) := digK_length fs q hq
              clear hx
              generalize fs.list[q] = y at *
              go_wp2_with fail
              refine wp_region_sched (fun W => W.cell? ⟨fb, fo + q, none⟩ = some (nV y)) 25 [(0, false), (1, false), (2, false), (3, false), (4, false), (5, false), (6, false), (7, false), (8, false), (9, false), (10, false), (11, false), (12, false), (13, false), (14, false), (15, false), (16, false), (17, false), (18, false), (19, false), (20, false), (21, false), (22, false), (23, false), (24, true)] (by kernel_rfl) (by kernel_rfl) c0 ?_
              simp only [List.drop_succ_cons, List.drop_zero]
              iterate 24 (apply wpSch_step rfl; (intro W hS K hK; simp only [nV] at hS; go_simp; exact hK _ rfl))
              refine wpSch_make rfl (fun K' hK => ?_)
              go_simp
              refine hK _ _ (fun W => W.cell? ⟨fb, fo + q, none⟩ = some (nV y)) (fun _ h => h) ((((Below.refl _ wr).alloc (Nat.le_refl _) _).drew.cell (p := ⟨fb, fo + q, none⟩) (lt_of_cell c0)).trans c0) ?_
              clear hK K' c0
              refine wpSch_nil ?_
              have HBUA : Hid (∀ o, Buf ((wr.alloc o).drew) w4.heap.size x (digK fs q)) := fun o => (show Buf (wr.alloc o) w4.heap.size x (digK fs q) from HBU.out.alloc o)
              have HBVA : Hid (∀ o, Below w4.heap.size w4 ((wr.alloc o).drew)) := fun o => (HBV.out.alloc HBV.out.size o).drew
              go_wp2_with (at_builtin; refine wp_buf_push _ rfl _ _ rfl w4.heap.size x (digK fs q) rfl (HBUA.out _) ⟨wr.heap.size, 0, none⟩ 4 4 (digB y) rfl rfl ?c1 (by have := HDL.out; omega) (HBVA.out _).size ?_)
              case c1 =>
                intro i u hi
                match i, hi with
                | 0, hi => simp [digB] at hi; subst hi; simp [Addr.add, byV, u8_mod] <;> omega
                | 1, hi => simp [digB] at hi; subst hi; simp [Addr.add, byV, u8_mod]
                | 2, hi => simp [digB] at hi; subst hi; simp [Addr.add, byV, u8_mod]
                | 3, hi => simp [digB] at hi; subst hi; simp [Addr.add, byV, u8_mod]
                | _ + 4, hi => simp [digB] at hi
              intro v' w5 hb' hl'
              rw [← HDS.out] at hb'
              have HB7 := Lib.hid hb'
              have HL7 : Hid (Below w4.heap.size w4 w5) := (HBVA.out _).trans hl'
              clear hb' hl'
              go_wp2
              go_roundw
              case rel => exact ⟨_, q + 1, by omega, rfl, by go_num, HB7.out, HL7.out⟩
              case measure => simp [RowKit.intOf]; omega
            · have hq8 : q = 8 := by omega
              subst hq8
              have hc := HBU.out.text
              have HF9 : Hid (R = ⟨(digK fs 8).toArray⟩) := by show _ = _; rw [HRD.out]; rfl
              have HB6 : Hid (Below w.heap.size w wr) := HB5.out.trans (HBV.out.mono HB5.out.size)
              go_wp2
              go_ret
              exact ⟨by rw [HF9.out]; simp, HB6.out⟩
end Go.Proofs.YtljjcchdhnficaaDoor
