/-
  Decode of package clog.
-/
import Derived.Test.YtphhnhldbajaoaaGreatDoorMg27
import Derived.Deep.QuietTactic
import Derived.BigQuiet
namespace Go.Proofs.YtphhnhldbajaoaaGreatDoor
open Go.RowKit

theorem results_cell2 {P : Program} {fn : Func} {p u : Tmp} {ty : TypeId} (h : fn.results = #[.cell p ty, .tmp u]) (tmps : Array Value) (w : World) (g : Nat) (t : TypeId) (cs : Array Value) (fr : Nat × Nat) (d : TypeDesc)
    (hp : tmps.getD p undef = .pointer (some ⟨g, 0, none⟩)) (hg : w.heap[g]? = some (.cells cs t fr))
    (hu : P.underlying ty = some d) (hd : (match d with | .struct _ | .array _ _ => true | _ => false) = true) (hi : (P.info? ty).map (·.size) = some cs.size) :
    (results fn tmps).run P w = .ok (.tuple #[.agg cs, tmps.getD u undef]) w := by
  rw [results_cell_tmp h, hp]
  simp [asAddr, run_loadVar_row w g t ty cs fr d hg hu hd hi]
theorem markC_list : markC.toList = [80, 76] := by rw [ByteArray.toList_eq]; rfl
theorem str_neqC {s t : ByteArray} (h : ¬ s = t) : (s.toList == t.toList) = false := by
  rw [beq_eq_false_iff_ne]
  intro e
  apply h
  rw [ByteArray.toList_eq, ByteArray.toList_eq] at e
  exact ByteArray.ext (Array.toList_inj.1 e)
theorem sizeCBd : (Tryz.prog.info? 187).map (·.size) = some 2 := by kernel_rfl

def bdyC (s : ByteArray) : ByteArray := s.extract 0 (s.size - 32)
def digC (s : ByteArray) : ByteArray := s.extract (s.size - 32) s.size
def posTo (b : ByteArray) : Nat → Nat
  | 0 => 9
  | j + 1 => entTo b (posTo b j)
def entsTo (b : ByteArray) : Nat → List CgE
  | 0 => []
  | j + 1 => entsTo b j ++ [entAt b (posTo b j)]
theorem entsTo_len (b : ByteArray) : ∀ j, (entsTo b j).length = j
  | 0 => rfl
  | j + 1 => by rw [entsTo, List.length_append, entsTo_len b j]; rfl
/-- Decode's answer: number, entries, error. -/
def decC (s : ByteArray) : (Int × List CgE) × Int :=
  if s.size < 41 then ((0, []), 2) else if sha (bdyC s) ≠ digC s then ((0, []), 4) else
  if valB (bdyC s) 0 2 ≠ markC ∨ posEnd (bdyC s) (posTo (bdyC s) (valN (bdyC s) 8 1)) ≠ 0 ∨ chkC (valN (bdyC s) 2 6) (entsTo (bdyC s) (valN (bdyC s) 8 1)) ≠ 0 then ((0, []), 3)
  else ((((valN (bdyC s) 2 6 : Nat) : Int), entsTo (bdyC s) (valN (bdyC s) 8 1)), 0)
def DcRes (T : TypeId) (w : World) (q : (Int × List CgE) × Int) (e : Ending) (w' : World) : Prop :=
  ∃ v, e = .returned (.tuple #[.agg #[.int .i64 q.1.1, v], .int .i64 q.2]) ∧ Cgs T w' w.heap.size v q.1.2 ∧ Below w.heap.size w w'
theorem DcRes.no {T : TypeId} {w w' : World} {q : (Int × List CgE) × Int} {x : Int} (h : q = ((0, []), x)) (hb : Below w.heap.size w w') : DcRes T w q (.returned (.tuple #[.agg #[.int .i64 0, .slice none 0 0], .int .i64 x])) w' := by
  subst h
  exact ⟨_, rfl, Cgs.nil _ _ _, hb⟩
theorem DcRes.mk {T : TypeId} {w w' : World} {q : (Int × List CgE) × Int} {n : Int} {l : List CgE} {v : Value} (h : q = ((n, l), 0)) (hp : Cgs T w' w.heap.size v l) (hb : Below w.heap.size w w') : DcRes T w q (.returned (.tuple #[.agg #[.int .i64 n, v], .int .i64 0])) w' := by
  subst h
  exact ⟨_, rfl, hp, hb⟩
theorem valN_one (b : ByteArray) (k : Nat) : valN b k 1 < 256 := by
  unfold valN
  have h1 := leVal_lt (valB b k 1).data.toList
  have h2 : (valB b k 1).data.toList.length ≤ 1 := by
    rw [Array.length_toList]
    show (valB b k 1).size ≤ 1
    unfold valB
    split
    · rw [ByteArray.size_extract]; omega
    · exact Nat.zero_le _
  have h3 : 256 ^ (valB b k 1).data.toList.length ≤ 256 ^ 1 := Nat.pow_le_pow_right (by decide) h2
  omega
/-- The loop of Decode: the answer's place, the reader, the block that is filled. -/
structure DeJ (w : World) (g R U : Nat) (bo : ByteArray) (seq : Int) (v : Value) (j : Nat) (W : World) : Prop where
  bg : Box W g 187 #[.int .i64 0, .slice none 0 0]
  rd : RdPos W R bo (posTo bo j)
  bu : Box W U 187 #[.int .i64 seq, v]
  pr : Cgs 170 W (U + 1) v (entsTo bo j)
  bl : Below g w W

set_option maxRecDepth 100000 in
theorem cdecode_cut (s : ByteArray) (w : World) (hs : s.size < 41) : Calls Tryz.prog 152 #[.string s] w (DcRes 170 w (decC s)) := by
  have HQ : Hid (decC s = ((0, []), 2)) := if_pos hs
  have h1 : (s.size : Int) < 41 := by omega
  clear hs
  have hb : Box (w.alloc (.cells #[.int .i64 0, .slice none 0 0] 187 (0, 0))) w.heap.size 187 #[.int .i64 0, .slice none 0 0] := Box.new w _ _
  have HBX := Lib.hid hb
  clear hb
  go_enter Tryz.func152, Tryz.ntmps152
  go_wp2
  refine bodyPost_ret (results_cell2 rfl _ _ w.heap.size 187 _ (0, 0) _ rfl HBX.out Tryz.underlying187 rfl sizeCBd) rfl ?_
  exact DcRes.no HQ.out ((Below.refl _ _).alloc (Nat.le_refl _) _)

set_option maxRecDepth 100000 in
set_option maxHeartbeats 2000000 in
theorem cdecode_long (s : ByteArray) (w : World) (hs : ¬ s.size < 41) (hs2 : s.size ≤ 1000000) (hK : Kt w) : Calls Tryz.prog 152 #[.string s] w (DcRes 170 w (decC s)) := by
  have HK := Lib.hid hK
  have HP := Lib.hid hK.pos
  have h1 : ¬ (s.size : Int) < 41 := by omega
  have h2 : (41 : Int) ≤ s.size := by omega
  have HD : Hid (decC s = if sha (bdyC s) ≠ digC s then ((0, []), 4) else
      if valB (bdyC s) 0 2 ≠ markC ∨ posEnd (bdyC s) (posTo (bdyC s) (valN (bdyC s) 8 1)) ≠ 0 ∨ chkC (valN (bdyC s) 2 6) (entsTo (bdyC s) (valN (bdyC s) 8 1)) ≠ 0 then ((0, []), 3)
      else ((((valN (bdyC s) 2 6 : Nat) : Int), entsTo (bdyC s) (valN (bdyC s) 8 1)), 0)) := if_neg hs
  have hw1 : IntKind.i64.wrap ((s.size : Int) - 32) = (s.size : Int) - 32 := i64_small _ (by omega) (by omega)
  have hw2 : 0 ≤ (s.size : Int) - 32 := by omega
  have hw3 : (s.size : Int) - 32 ≤ s.size := by omega
  have hw4 : ((s.size : Int) - 32).toNat = s.size - 32 := by omega
  have hb0 : (bdyC s).size ≤ 140737488355328 := by unfold bdyC; rw [ByteArray.size_extract]; omega
  have HBB : Hid (bdyC s = s.extract 0 (s.size - 32)) := rfl
  have HSS : Hid (digC s = s.extract (s.size - 32) s.size) := rfl
  have HB0 := Lib.hid hb0
  have hbx : Box (w.alloc (.cells #[.int .i64 0, .slice none 0 0] 187 (0, 0))) w.heap.size 187 #[.int .i64 0, .slice none 0 0] := Box.new w _ _
  have HBX := Lib.hid hbx
  have HX : Hid (Below w.heap.size w (w.alloc (.cells #[.int .i64 0, .slice none 0 0] 187 (0, 0)))) := (Below.refl _ _).alloc (Nat.le_refl _) _
  clear hK hs hs2 hbx hb0
  go_enter Tryz.func152, Tryz.ntmps152
  go_wp2_with fail
  generalize World.alloc _ _ = wx at *
  go_quiet (fail)
  clear hw1 hw2 hw3 hw4
  have HX1 := Lib.hid (show Below w.heap.size w (wx.drewN nq) from ⟨HX.out.os, HX.out.tape, HX.out.output, HX.out.size, HX.out.block⟩)
  have HBX1 : Hid (Box (wx.drewN nq) w.heap.size 187 #[.int .i64 0, .slice none 0 0]) := HBX.out
  clear HX HBX
  generalize wx.drewN nq = w1 at *
  rw [← HBB.out, ← HSS.out]
  obtain ⟨g, hg⟩ : ∃ g, g = w.heap.size := ⟨_, rfl⟩
  have HG := Lib.hid hg
  rw [← hg]
  rw [← hg] at HBX1
  clear hg
  go_wp2_with fail
  refine (of_any (bdyC s) _ HB0.out (HK.out.below HX1.out HP.out)).mono ?_
  rintro e w2 ⟨rfl, hb⟩
  have H2 : Hid (Below g w w2) := by rw [HG.out]; exact HX1.out.trans (hb.mono HX1.out.size)
  have B2 := Lib.hid (HBX1.out.keep hb HBX1.out.lt)
  clear hb HX1 HBX1
  generalize hsh : sha (bdyC s) = sh at *
  generalize hdg : digC s = dg at *
  generalize hbo : bdyC s = bo at *
  have HY := Lib.hid (And.intro hsh (And.intro hdg hbo))
  clear hsh hdg hbo
  by_cases hc : sh = dg
  · have HD2 : Hid (decC s = if valB bo 0 2 ≠ markC ∨ posEnd bo (posTo bo (valN bo 8 1)) ≠ 0 ∨ chkC (valN bo 2 6) (entsTo bo (valN bo 8 1)) ≠ 0 then ((0, []), 3) else ((((valN bo 2 6 : Nat) : Int), entsTo bo (valN bo 8 1)), 0)) := by
      have := HD.out
      rw [if_neg (fun h => h hc)] at this
      exact this
    subst hc
    clear HD
    go_wp2_with fail
    refine (read_pos bo _).mono ?_
    rintro e w3 ⟨rfl, hr, hb⟩
    have H3 := Lib.hid (H2.out.trans (hb.mono (Nat.le_of_lt B2.out.lt)))
    have B3 := Lib.hid (B2.out.keep hb B2.out.lt)
    have R3 := Lib.hid hr
    have LT : Hid (g < w2.heap.size) := B2.out.lt
    clear hb hr H2 B2
    go_wp2_with fail
    generalize w2.heap.size = R at *
    refine (bytes_pos R bo 0 2 _ R3.out).mono ?_
    rintro e w4 ⟨rfl, hr, hb⟩
    have H4 := Lib.hid (H3.out.trans (hb.below' (Nat.le_of_lt LT.out) (Nat.le_of_lt B3.out.lt)))
    have B4 := Lib.hid (hb.box (Nat.ne_of_lt LT.out) B3.out)
    have R4 := Lib.hid hr
    clear hb hr H3 B3 R3
    go_wp2_with fail
    refine (number_pos R bo 2 6 (by decide) (by decide) _ R4.out).mono ?_
    rintro e w5 ⟨rfl, hr, hb⟩
    have H5 := Lib.hid (H4.out.trans (hb.below' (Nat.le_of_lt LT.out) (Nat.le_of_lt B4.out.lt)))
    have B5 := Lib.hid (hb.box (Nat.ne_of_lt LT.out) B4.out)
    have R5 : Hid (RdPos w5 R bo 8) := hr
    clear hb hr H4 B4 R4
    generalize hsq : valN bo 2 6 = sq at *
    have hx := (Below.refl w5.heap.size w5).alloc (Nat.le_refl _) (.cells #[.int .i64 (sq : Int), .slice none 0 0] 187)
    have BU5 := Lib.hid (Box.new w5 187 #[.int .i64 (sq : Int), .slice none 0 0])
    have H6 := Lib.hid (H5.out.trans (hx.mono (Nat.le_of_lt B5.out.lt)))
    have B6 := Lib.hid (B5.out.keep hx B5.out.lt)
    have R6 := Lib.hid (R5.out.keep hx)
    have LU : Hid (R < w5.heap.size) := R5.out.lt
    clear hx H5 B5 R5
    go_wp2_with fail
    generalize World.alloc w5 _ = w6 at *
    obtain ⟨U, hU⟩ : ∃ U, U = w5.heap.size := ⟨_, rfl⟩
    rw [← hU] at LU BU5
    rw [← hU]
    clear hU
    refine (number_pos R bo 8 1 (by decide) (by decide) _ R6.out).mono ?_
    rintro e w7 ⟨rfl, hr, hb⟩
    have hmm := valN_one bo 8
    have HJ0 : Hid (DeJ w g R U bo sq (.slice none 0 0) 0 w7) := ⟨hb.box (Nat.ne_of_lt LT.out) B6.out, hr, hb.box (Nat.ne_of_gt LU.out) BU5.out, Cgs.nil _ _ _, H6.out.trans (hb.below' (Nat.le_of_lt LT.out) (Nat.le_of_lt B6.out.lt))⟩
    clear hb hr H6 B6 R6 BU5
    have HSQ := Lib.hid hsq
    clear hsq
    generalize hfr : valB bo 0 2 = fr at *
    have HFR := Lib.hid hfr
    clear hfr
    obtain ⟨m, hm⟩ : ∃ m, valN bo 8 1 = m := ⟨_, rfl⟩
    rw [hm] at HD2 hmm ⊢
    clear hm
    go_wp2
    go_loopw [37] (fun i wr => ∃ (j : Nat) (v : Value), j ≤ m ∧ i = .int .i64 j ∧ Hid (DeJ w g R U bo sq v j wr)) (fun i _ => m - (RowKit.intOf i).toNat)
    case atStart => exact ⟨0, _, Nat.zero_le _, rfl, HJ0⟩
    case round =>
      clear HJ0
      obtain ⟨j, v, hj, rfl, HJ⟩ := hrel
      by_cases hlt : j < m
      · have hj0 : (0 : Int) ≤ (j : Int) := by omega
        have hjm : (j : Int) < (m : Int) := by omega
        have HLT := Lib.hid (And.intro hlt hmm)
        have k1 := HJ.out.bu.cell 1 _ rfl
        clear hlt
        go_wp2_with fail
        refine wp_region_sched (fun W => W.cell? ⟨U, 1, none⟩ = some v) 5 [(0, false), (1, false), (2, false), (3, true), (4, true)] (by kernel_rfl) (by kernel_rfl) k1 ?_
        simp only [List.drop_succ_cons, List.drop_zero]
        iterate 3 (apply wpSch_step rfl; (intro W hS K hK; have r1 := hS; go_simp; exact hK _ rfl))
        refine wpSch_make rfl (fun K' hK => ?_)
        go_simp
        refine (centry_any R bo (posTo bo j) _ (HJ.out.rd.keep (Below.refl _ _).drew)).mono ?_
        rintro e w8 ⟨rfl, hr, hb⟩
        have hd := (Below.refl wr.heap.size wr).drew
        have hvo : v.ownBlock ≠ some R := fun e => by have := (HJ.out.pr.own_blk _ e).1; have := LU.out; omega
        have G8 := Lib.hid (hb.box (Nat.ne_of_lt LT.out) (HJ.out.bg.keep hd HJ.out.bg.lt))
        have U8 := Lib.hid (hb.box (Nat.ne_of_gt LU.out) (HJ.out.bu.keep hd HJ.out.bu.lt))
        have P8 : Hid (Cgs 170 w8 (U + 1) v (entsTo bo j)) := hb.row hvo (HJ.out.pr.keep hd)
        have L8 := Lib.hid (HJ.out.bl.drew.trans (hb.below' (Nat.le_of_lt LT.out) (Nat.le_of_lt HJ.out.bg.lt)))
        have R8 : Hid (RdPos w8 R bo (posTo bo (j + 1))) := hr
        refine hK _ _ _ (fun _ h => h) (U8.out.cell 1 _ rfl) ?_
        clear hK K' hb hr hd hvo k1 HJ
        refine wpSch_make rfl (fun K' hK => ?_)
        go_simp
        have hES : entsTo bo (j + 1) = entsTo bo j ++ [entAt bo (posTo bo j)] := rfl
        have HES := Lib.hid hES
        clear hES
        have hln := entsTo_len bo j
        generalize entAt bo (posTo bo j) = x at *
        have hz := (Below.refl w8.heap.size w8).alloc (Nat.le_refl _) (.cells #[.string x.key, .string x.sum, .int .i64 x.len, .int .i64 x.pos] 170)
        have XB : Hid (Box (w8.alloc (.cells #[.string x.key, .string x.sum, .int .i64 x.len, .int .i64 x.pos] 170)) w8.heap.size 170 #[.string x.key, .string x.sum, .int .i64 x.len, .int .i64 x.pos]) := Box.new w8 _ _
        have G9 := Lib.hid (G8.out.keep hz G8.out.lt)
        have U9 := Lib.hid (U8.out.keep hz U8.out.lt)
        have P9 := Lib.hid (P8.out.keep hz)
        have L9 := Lib.hid (L8.out.trans (hz.mono (Nat.le_of_lt G8.out.lt)))
        have R9 := Lib.hid (R8.out.keep hz)
        refine hK _ _ _ (fun _ h => h) (U9.out.cell 1 _ rfl) ?_
        clear hK K' hz G8 U8 P8 L8 R8
        refine wpSch_nil ?_
        obtain ⟨p, hp⟩ : ∃ p, entsTo bo j = p := ⟨_, rfl⟩
        rw [hp] at P9 HES hln
        have HPE := Lib.hid (And.intro hp hln)
        clear hp hln
        go_wp2_with (with_reducible refine wp_cgs_push Tryz.underlying185 four_C _ rfl (.tmp 40) (.tmp 43) rfl (U + 1) _ p rfl ?a1 w8.heap.size 1 x ?a2 ?a3 ?a4 ?a5 ?a6)
        case a1 => exact P9.out
        try (case a2 => rfl)
        case a3 => intro i u hi; exact XB.out.cell i u (by simpa [cgL] using hi)
        case a4 => have := HPE.out.2; have := HLT.out; omega
        case a5 => exact U9.out.lt
        intro v' wA hpv hgr _
        have hown := P9.out.own_blk
        have GA := Lib.hid (G9.out.of (hgr.block g G9.out.lt (fun e => by have := (hown _ e.symm).1; have := LT.out; have := LU.out; omega)))
        have RA : Hid (RdPos wA R bo (posTo bo (j + 1))) := (hgr.block R R9.out.lt (fun e => by have := (hown _ e.symm).1; have := LU.out; omega)).trans R9.out
        have UA := Lib.hid (U9.out.of (hgr.block U U9.out.lt (fun e => by have := (hown _ e.symm).1; omega)))
        have LA := Lib.hid (L9.out.grown hgr (Nat.le_of_lt G9.out.lt) (fun k hk => by have := (hown k hk).1; have := LT.out; have := LU.out; omega))
        obtain ⟨p', hp'⟩ : ∃ p', p' = p ++ [x] := ⟨_, rfl⟩
        rw [← hp'] at hpv HES
        clear hp'
        obtain ⟨va, vc, rfl, _⟩ := hpv.view
        have PA := Lib.hid hpv
        have d1 := UA.out.cell 1 _ rfl
        have f1 := UA.out.free 1
        have HJ5 : Hid (DeJ w g R U bo sq (.slice va p'.length vc) (j + 1) (wA.setCell ⟨U, 1, none⟩ (.slice va p'.length vc))) := by
          have n1 : g ≠ U := by have := LT.out; have := LU.out; omega
          have n2 : R ≠ U := Nat.ne_of_lt LU.out
          refine ⟨GA.out.of (heap_setCell_other _ ⟨U, 1, none⟩ _ _ n1), RA.out.set _ n2, UA.out.set 1 _, ?_, LA.out.setCell (p := ⟨U, 1, none⟩) (by have := LT.out; have := LU.out; show g ≤ U; omega) _⟩
          rw [HES.out]
          exact ownsRow_of PA.out fun k hk _ => heap_setCell_other _ ⟨U, 1, none⟩ _ _ (by have := (PA.out.own_blk k hk).1; show k ≠ U; omega)
        clear hpv hgr hown GA RA UA LA PA G9 U9 P9 L9 R9 XB
        go_wp2
        go_roundw
        case rel => exact ⟨j + 1, _, HLT.out.1, by go_num, HJ5⟩
        case measure => have := HLT.out; simp [RowKit.intOf]; omega
      · obtain rfl : j = m := by omega
        have HS := Lib.hid (HJ.out.pr.view)
        obtain ⟨va, vc, rfl, hsl⟩ := HS.out
        have SL := Lib.hid hsl
        have BG := Lib.hid HJ.out.bg
        have BU := Lib.hid HJ.out.bu
        have RD := Lib.hid HJ.out.rd
        have PR := Lib.hid HJ.out.pr
        have BL := Lib.hid HJ.out.bl
        clear hsl HS HJ
        generalize hpe : posTo bo j = pe at *
        generalize hen : entsTo bo j = p at *
        clear hpe hen
        by_cases hm : fr = markC
        · subst hm
          have em : markC.toList = [80, 76] := markC_list
          by_cases he : posEnd bo pe = 0
          · have HE := Lib.hid he
            clear he
            go_wp2_with fail
            refine (end_pos R bo pe _ RD.out).mono ?_
            rintro e w8 ⟨rfl, rfl⟩
            rw [HE.out]
            have u0 := BU.out.cell 0 _ rfl
            have u1 := BU.out.cell 1 _ rfl
            go_wp2_with fail
            refine (ccheck_any sq va vc p _ SL.out).mono ?_
            rintro e w9 ⟨rfl, hb⟩
            have G9 := Lib.hid (BG.out.keep hb BG.out.lt)
            have U9 := Lib.hid (BU.out.keep hb BU.out.lt)
            have P9 := Lib.hid (PR.out.keep hb)
            have L9 := Lib.hid (BL.out.trans (hb.mono (Nat.le_of_lt BG.out.lt)))
            clear hb u0 u1 BG BU PR BL RD SL
            rcases chkC_or sq p with hy | hy
            · have HQ : Hid (decC s = (((sq : Int), p), 0)) := by
                show _ = _
                rw [HD2.out, if_neg]
                rintro (h | h | h)
                · exact h rfl
                · exact h HE.out
                · exact h hy
              rw [hy]
              clear hy
              have u0 := U9.out.cell 0 _ rfl
              have u1 := U9.out.cell 1 _ rfl
              have f0 := G9.out.free 0
              have f1 := G9.out.free 1
              have k0 := G9.out.cell 0 _ rfl
              have k1 := G9.out.cell 1 _ rfl
              have HR := Lib.hid ((G9.out.set 0 (.int .i64 (sq : Int))).set 1 (.slice va p.length vc))
              have HRB := Lib.hid ((L9.out.setCell (p := ⟨g, 0, none⟩) (Nat.le_refl _) (.int .i64 (sq : Int))).setCell (p := ⟨g, 1, none⟩) (Nat.le_refl _) (.slice va p.length vc))
              have HPR : Hid (Cgs 170 ((w9.setCell ⟨g, 0, none⟩ (.int .i64 (sq : Int))).setCell ⟨g, 1, none⟩ (.slice va p.length vc)) w.heap.size (.slice va p.length vc) p) :=
                Cgs.base (ownsRow_of P9.out fun k hk _ => (heap_setCell_other _ ⟨g, 1, none⟩ _ _ (by have := (P9.out.own_blk k hk).1; have := LT.out; have := LU.out; show k ≠ g; omega)).trans (heap_setCell_other _ ⟨g, 0, none⟩ _ _ (by have := (P9.out.own_blk k hk).1; have := LT.out; have := LU.out; show k ≠ g; omega))) (by have := LT.out; have := LU.out; have := HG.out; omega)
              clear G9 U9 P9 L9
              go_wp2
              refine bodyPost_ret (results_cell2 rfl _ _ g 187 _ (0, 0) _ rfl HR.out Tryz.underlying187 rfl sizeCBd) rfl ?_
              exact DcRes.mk HQ.out HPR.out (by rw [← HG.out]; exact HRB.out)
            · have HQ : Hid (decC s = ((0, []), 3)) := by
                show _ = _
                rw [HD2.out, if_pos (.inr (.inr (by rw [hy]; decide)))]
              rw [hy]
              clear hy
              have f0 := G9.out.free 0
              have f1 := G9.out.free 1
              have k0 := G9.out.cell 0 _ rfl
              have k1 := G9.out.cell 1 _ rfl
              have HR := Lib.hid ((G9.out.set 0 (.int .i64 0)).set 1 (.slice none 0 0))
              have HRB := Lib.hid ((L9.out.setCell (p := ⟨g, 0, none⟩) (Nat.le_refl _) (.int .i64 0)).setCell (p := ⟨g, 1, none⟩) (Nat.le_refl _) (.slice none 0 0))
              clear G9 L9
              go_wp2
              refine bodyPost_ret (results_cell2 rfl _ _ g 187 _ (0, 0) _ rfl HR.out Tryz.underlying187 rfl sizeCBd) rfl ?_
              exact DcRes.no HQ.out (by rw [← HG.out]; exact HRB.out)
          · have HQ : Hid (decC s = ((0, []), 3)) := by
              show _ = _
              rw [HD2.out, if_pos (.inr (.inl he))]
            have hd : (posEnd bo pe != 0) = true := by rw [bne_iff_ne]; exact he
            clear he
            go_wp2_with fail
            refine (end_pos R bo pe _ RD.out).mono ?_
            rintro e w8 ⟨rfl, rfl⟩
            clear BU PR RD SL
            have f0 := BG.out.free 0
            have f1 := BG.out.free 1
            have k0 := BG.out.cell 0 _ rfl
            have k1 := BG.out.cell 1 _ rfl
            have HR := Lib.hid ((BG.out.set 0 (.int .i64 0)).set 1 (.slice none 0 0))
            have HRB := Lib.hid ((BL.out.setCell (p := ⟨g, 0, none⟩) (Nat.le_refl _) (.int .i64 0)).setCell (p := ⟨g, 1, none⟩) (Nat.le_refl _) (.slice none 0 0))
            clear BG BL
            go_wp2
            refine bodyPost_ret (results_cell2 rfl _ _ g 187 _ (0, 0) _ rfl HR.out Tryz.underlying187 rfl sizeCBd) rfl ?_
            exact DcRes.no HQ.out (by rw [← HG.out]; exact HRB.out)
        · have HQ : Hid (decC s = ((0, []), 3)) := by
            show _ = _
            rw [HD2.out, if_pos (.inl hm)]
          have hd : (fr.toList == [80, 76]) = false := by have := str_neqC hm; rwa [markC_list] at this
          clear hm BU PR RD SL
          have f0 := BG.out.free 0
          have f1 := BG.out.free 1
          have k0 := BG.out.cell 0 _ rfl
          have k1 := BG.out.cell 1 _ rfl
          have HR := Lib.hid ((BG.out.set 0 (.int .i64 0)).set 1 (.slice none 0 0))
          have HRB := Lib.hid ((BL.out.setCell (p := ⟨g, 0, none⟩) (Nat.le_refl _) (.int .i64 0)).setCell (p := ⟨g, 1, none⟩) (Nat.le_refl _) (.slice none 0 0))
          clear BG BL
          go_wp2
          refine bodyPost_ret (results_cell2 rfl _ _ g 187 _ (0, 0) _ rfl HR.out Tryz.underlying187 rfl sizeCBd) rfl ?_
          exact DcRes.no HQ.out (by rw [← HG.out]; exact HRB.out)
  · have HQ : Hid (decC s = ((0, []), 4)) := by
      have := HD.out
      rw [if_pos (fun h => hc h)] at this
      exact this
    clear HD
    have hd : (sh.toList == dg.toList) = false := str_neqC hc
    have f0 := B2.out.free 0
    have f1 := B2.out.free 1
    have k0 := B2.out.cell 0 _ rfl
    have k1 := B2.out.cell 1 _ rfl
    have HR := Lib.hid ((B2.out.set 0 (.int .i64 0)).set 1 (.slice none 0 0))
    have HRB := Lib.hid ((H2.out.setCell (p := ⟨g, 0, none⟩) (Nat.le_refl _) (.int .i64 0)).setCell (p := ⟨g, 1, none⟩) (Nat.le_refl _) (.slice none 0 0))
    clear B2 H2
    go_wp2
    refine bodyPost_ret (results_cell2 rfl _ _ g 187 _ (0, 0) _ rfl HR.out Tryz.underlying187 rfl sizeCBd) rfl ?_
    exact DcRes.no HQ.out (by rw [← HG.out]; exact HRB.out)
end Go.Proofs.YtphhnhldbajaoaaGreatDoor
