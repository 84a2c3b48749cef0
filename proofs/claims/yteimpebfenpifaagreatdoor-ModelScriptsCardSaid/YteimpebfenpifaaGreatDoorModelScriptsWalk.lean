/-
  The walk of ModelScripts.
-/
import Derived.Test.YteimpebfenpifaaGreatDoorMg43
namespace Go.Proofs.YteimpebfenpifaaGreatDoor.modelScripts
open Go Go.RowKit Go.ChangeShapes Go.WideShapes Go.ChangeAt

theorem small_iff {l : List OpD} {m : Int} (h : smallB l m = true) : (∀ o ∈ l, okO o) ∧ (l.length : Int) ≤ m := of_decide_eq_true h
/-- The op that stands there. -/
structure OpAt (w : World) (b o : Nat) (x : OpD) : Prop where
  c0 : w.cell? ⟨b, o, none⟩ = some (.int .i64 x.do_)
  c1 : w.cell? ⟨b, o + 1, none⟩ = some (.string x.path)
  c2 : w.cell? ⟨b, o + 2, none⟩ = some (.string x.dst)
  c3 : w.cell? ⟨b, o + 3, none⟩ = some (.int .i64 x.off)
  c4 : w.cell? ⟨b, o + 4, none⟩ = some (.int .i64 x.len)
  c5 : w.cell? ⟨b, o + 5, none⟩ = some (.string x.data)
theorem SlE.opAt {w w' : World} {a : Option Addr} {l : List OpD} (h : SlE w 6 MopK a l) (hb : Below w.heap.size w w') (i : Nat) (hi : i < l.length) : ∃ b off, a = some ⟨b, off, none⟩ ∧ b < w.heap.size ∧ OpAt w' b (off + i * 6) l[i] := by
  obtain ⟨b, off, e, hl, q0, q1, q2, q3, q4, q5⟩ := h.mop hb i hi
  exact ⟨b, off, e, hl, q0, q1, q2, q3, q4, q5⟩
theorem OpAt.keep {w w' : World} {b o n : Nat} {x : OpD} (h : OpAt w b o x) (hb : Below n w w') (hl : b < n) : OpAt w' b o x :=
  ⟨(hb.cell (p := ⟨b, o, none⟩) hl).trans h.c0, (hb.cell (p := ⟨b, o + 1, none⟩) hl).trans h.c1, (hb.cell (p := ⟨b, o + 2, none⟩) hl).trans h.c2, (hb.cell (p := ⟨b, o + 3, none⟩) hl).trans h.c3, (hb.cell (p := ⟨b, o + 4, none⟩) hl).trans h.c4, (hb.cell (p := ⟨b, o + 5, none⟩) hl).trans h.c5⟩
/-- Two pairs that tell the same, so many ops old. -/
def S4 (w0 : World) (b b2 pb qb : Nat) (k k2 : Nat) (w : World) : Prop :=
  ∃ (G G2 : GD) (p q : RmP), p.b = pb ∧ q.b = qb ∧ L4 w0 b G k b2 G2 k2 p G q G2 w ∧ SzG G (k * 601) ∧ SzG G2 (k2 * 601)
theorem S4.swap {w0 : World} {b b2 pb qb k k2 : Nat} {w : World} (h : S4 w0 b b2 pb qb k k2 w) : S4 w0 b2 b qb pb k2 k w := by
  obtain ⟨G, G2, p, q, h1, h2, h3, h4, h5⟩ := h
  exact ⟨G2, G, q, p, h2, h1, h3.swap, h5, h4⟩
theorem S4.keep {w0 : World} {b b2 pb qb k k2 : Nat} {w w' : World} (h : S4 w0 b b2 pb qb k k2 w) (hb : Below w.heap.size w w') : S4 w0 b b2 pb qb k k2 w' := by
  obtain ⟨G, G2, p, q, h1, h2, h3, h4, h5⟩ := h
  exact ⟨G, G2, p, q, h1, h2, h3.keep hb, h4, h5⟩
theorem S4.bl {w0 : World} {b b2 pb qb k k2 : Nat} {w : World} (h : S4 w0 b b2 pb qb k k2 w) : Below w0.heap.size w0 w := by
  obtain ⟨G, G2, p, q, h1, h2, h3, h4, h5⟩ := h
  exact h3.bl
theorem S4.it {w0 : World} {b b2 pb qb k k2 : Nat} {w : World} (h : S4 w0 b b2 pb qb k k2 w) : It w := by
  obtain ⟨G, G2, p, q, h1, h2, h3, h4, h5⟩ := h
  exact h3.it
/-- Between: the package's tree has been asked, the reference's not yet. -/
def M4 (w0 : World) (b b2 pb qb : Nat) (k k2 : Nat) (x : OpD) (a : AnsD) (va : Option Addr) (vc : Nat) (w : World) : Prop :=
  ∃ (G G2 : GD) (p q : RmP), p.b = pb ∧ q.b = qb ∧ L4 w0 b (doG G x).2 (k + 1) b2 G2 k2 p G q G2 w ∧ SzG G (k * 601) ∧ SzG G2 (k2 * 601) ∧ (doG G x).1 = a ∧ WfG G ∧ G.E.length ≤ k ∧ G.T.length ≤ k + 1 ∧ (∃ B, Ks w B (.slice va a.names.length vc) a.names ∧ ∀ j ∈ p.fp, j < B)
theorem M4.bl {w0 : World} {b b2 pb qb k k2 : Nat} {x : OpD} {a : AnsD} {va : Option Addr} {vc : Nat} {w : World} (h : M4 w0 b b2 pb qb k k2 x a va vc w) : Below w0.heap.size w0 w := by
  obtain ⟨_, _, _, _, _, _, hl, _⟩ := h
  exact hl.bl
theorem s4_do {w0 : World} {b b2 pb qb k k2 : Nat} {w : World} (h : S4 w0 b b2 pb qb k k2 w) (h0 : It w0) (hk : k ≤ 130) (x : OpD) (hx : okO x) :
    Calls Tryz.prog 17 #[.pointer (some ⟨b, 0, none⟩), opV x] w fun e w' => ∃ a va vc, e = .returned (ansV a.code a.n a.data (.slice va a.names.length vc)) ∧ M4 w0 b b2 pb qb k k2 x a va vc w' ∧ a.names.length ≤ 1000 := by
  obtain ⟨G, G2, p, q, h1, h2, h3, h4, h5⟩ := h
  have hw := h3.t2.one.wf
  have hE := h3.t2.one.bE
  have hT := h3.t2.one.bT
  have hn := names_len G x
  refine (l4_do h3 h0 (by omega) x hx).mono ?_
  rintro e w' ⟨va, vc, rfl, hl, hks, hsz⟩
  exact ⟨(doG G x).1, va, vc, rfl, ⟨G, G2, p, q, h1, h2, hl, h4, h5, rfl, hw, hE, hT, w.heap.size, hks, h3.rp.lt⟩, by omega⟩
theorem s4_rdo {w0 : World} {b b2 pb qb k k2 : Nat} {x : OpD} {a : AnsD} {va : Option Addr} {vc : Nat} {w : World} (h : M4 w0 b b2 pb qb k k2 x a va vc w) (h0 : It w0) (hk : k ≤ 130) (hx : okO x) :
    Calls Tryz.prog 18 #[.pointer (some ⟨pb, 0, none⟩), opV x] w fun e w' => ∃ vb vd, e = .returned (ansV a.code a.n a.data (.slice vb a.names.length vd)) ∧ S4 w0 b b2 pb qb (k + 1) k2 w' ∧ Sl w' Value.string va a.names ∧ Sl w' Value.string vb a.names := by
  obtain ⟨G, G2, p, q, rfl, h2, h3, h4, h5, rfl, hw, hE, hT, B, hks, hB⟩ := h
  refine (l4_rdo h3 hw (by omega) (by omega) (fun y hy => Nat.le_trans (h4 y hy) (by omega)) h0 x hx).mono ?_
  rintro e w' ⟨vb, vd, p', rfl, hpb, hl, hks2, hch⟩
  refine ⟨vb, vd, rfl, ⟨_, G2, p', q, hpb, h2, hl, ?_, h5⟩, (hks.chg hch (fun j hj hm => ?_)).sl2, hks2.sl2⟩
  · have := sz_do h4 x hx
    rw [show (k + 1) * 601 = k * 601 + 601 from by omega]
    exact this
  · have h6 := hks.own_block j hj
    have h7 := hB j hm
    omega
theorem s4_copy {w0 : World} {b b2 pb qb k k2 : Nat} {w : World} (h : S4 w0 b b2 pb qb k k2 w) (hk : k ≤ 130) :
    Calls Tryz.prog 14 #[.pointer (some ⟨b, 0, none⟩)] w fun e w' => ∃ b3, e = .returned (.pointer (some ⟨b3, 0, none⟩)) ∧ ∃ (G : GD) (p : RmP), p.b = pb ∧ LvT w0 b G k b3 G k (fun j => j < w0.heap.size ∨ j ∈ p.fp) w' ∧ RmAt w' p G ∧ (∀ j ∈ p.fp, w0.heap.size ≤ j) ∧ SzG G (k * 601) := by
  obtain ⟨G, G2, p, q, h1, h2, h3, h4, h5⟩ := h
  refine (lt_copy h3.lvs (by omega)).mono ?_
  rintro e w' ⟨b3, rfl, ht, hb⟩
  exact ⟨b3, rfl, G, p, h1, ht, h3.rp.keep hb, h3.lp, h4⟩
theorem s4_rcopy {w0 : World} {b b3 k : Nat} {G : GD} {p : RmP} {w : World} (ht : LvT w0 b G k b3 G k (fun j => j < w0.heap.size ∨ j ∈ p.fp) w) (hk : k ≤ 130) (hp : RmAt w p G) (lp : ∀ j ∈ p.fp, w0.heap.size ≤ j) (hz : SzG G (k * 601)) :
    Calls Tryz.prog 15 #[.pointer (some ⟨p.b, 0, none⟩)] w fun e w' => ∃ qb, e = .returned (.pointer (some ⟨qb, 0, none⟩)) ∧ S4 w0 b b3 p.b qb k k w' := by
  have hE := ht.t2.one.bE
  have hT := ht.t2.one.bT
  refine (l4_make ht (fun j hj => hj) hp lp (by omega) (by omega)).mono ?_
  rintro e w' ⟨q, rfl, hl⟩
  exact ⟨q.b, rfl, G, G, p, q, rfl, rfl, hl, hz, hz⟩
theorem s4_count {w0 : World} {b b2 pb qb k k2 : Nat} {w : World} (h : S4 w0 b b2 pb qb k k2 w) (hk : k ≤ 130) : ∃ n1 n2 n3 : Nat,
    (Calls Tryz.prog 19 #[.pointer (some ⟨b, 0, none⟩)] w fun e w' => e = .returned (.tuple #[.int .i64 n1, .int .i64 n2, .int .i64 n3]) ∧ Below w.heap.size w w') ∧
    ∀ w', Below w.heap.size w w' → Calls Tryz.prog 20 #[.pointer (some ⟨pb, 0, none⟩)] w' fun e w2 => e = .returned (.tuple #[.int .i64 n1, .int .i64 n2, .int .i64 n3]) ∧ w2 = w' := by
  obtain ⟨G, G2, p, q, rfl, h2, h3, h4, h5⟩ := h
  have hE := h3.t2.one.bE
  have hT := h3.t2.one.bT
  have hw := h3.t2.one.wf
  have h0 := at_lt hw (l := []) (n := 0) (atE_nil G)
  exact ⟨(countG G).1, (countG G).2.1, (countG G).2.2, tk_count h3.t2.one (by omega), fun w' hb => rcount_any p G w' (h3.rp.keep hb) (by omega) (by omega) h0 hw.root hw.small⟩
set_option maxRecDepth 100000 in
set_option maxHeartbeats 8000000 in
theorem walk (w : World) (hI : It w) (x0 : Option Addr) (c0 : Nat) (l0 : List OpD) (s0 : SlE w 6 MopK x0 l0) (m0 : l0.length ≤ maxLen) (a1 : Int) (_ : (Lit.int .i64 a1).wf = true) :
    Calls Tryz.prog 3 #[.slice x0 l0.length c0, .int .i64 a1] w fun e w' => e = .returned (.bool true) ∧ Below w.heap.size w w' := by
  have HI := Lib.hid hI
  have HS := Lib.hid s0
  have HM := Lib.hid m0
  clear hI s0 m0
  go_enter Tryz.func3, Tryz.ntmps3
  go_wp2_with fail
  refine (small_any w x0 c0 l0 60 HS.out HM.out).mono ?_
  rintro e w1 ⟨rfl, rfl⟩
  by_cases hs1 : smallB l0 60 = true
  case neg =>
    have hs1 : smallB l0 60 = false := by simpa using hs1
    rw [hs1]
    go_wp2_with fail
    refine (live_any _ HI.out).mono ?_
    rintro e wl ⟨rfl, hb⟩
    have HL := Lib.hid hb
    clear hb
    go_wp2
    go_ret
    exact ⟨rfl, HL.out⟩
  have HO := Lib.hid (small_iff hs1)
  have HLEN : Hid (l0.length ≤ 60) := by have := HO.out.2; show _ ≤ _; omega
  rw [hs1]
  clear hs1
  have HNW := Lib.hid (lv_new w1 HI.out)
  go_wp2_with fail
  refine HNW.out.mono ?_
  rintro e w3 ⟨b, rfl, hs⟩
  have HLS := Lib.hid hs
  clear hs HNW
  go_wp2_with fail
  refine (rnew_any w3).mono ?_
  rintro e w4 ⟨p, rfl, hp⟩
  have HRP := Lib.hid hp
  have HLS4 := Lib.hid (HLS.out.more hp.2.1 (fun j => j ∈ p.fp) (fun j hj => ⟨hp.2.2 j hj, hp.1.lt j hj⟩))
  have HLP : Hid (∀ j ∈ p.fp, w1.heap.size ≤ j) := fun j hj => Nat.le_trans HLS.out.bl.size (hp.2.2 j hj)
  clear hp HLS
  go_wp2_with fail
  refine (lt_copy HLS4.out (by omega)).mono ?_
  rintro e w5 ⟨b2, rfl, ht, hb⟩
  have HT5 := Lib.hid ht
  have HP5 := Lib.hid (HRP.out.1.keep hb)
  clear ht hb HRP HLS4
  go_wp2_with fail
  refine (s4_rcopy HT5.out (by omega) HP5.out HLP.out (fun x hx => by cases hx)).mono ?_
  rintro e w6 ⟨qb, rfl, hs⟩
  have HS4 := Lib.hid hs
  clear hs HT5 HP5 HLP
  obtain ⟨pb, hpb⟩ : ∃ pb, pb = p.b := ⟨_, rfl⟩
  rw [← hpb] at HS4 ⊢
  clear hpb
  go_wp2_with fail
  go_loopw [7, 8, 9] (fun cv wv i wr => ∃ (j b2 qb k2 : Nat), ∃ wz : World, wz = wr ∧ j ≤ l0.length ∧ i = .int .i64 j ∧ cv = .pointer (some ⟨b2, 0, none⟩) ∧ wv = .pointer (some ⟨qb, 0, none⟩) ∧ Hid (S4 w1 b b2 pb qb j k2 wr ∧ k2 ≤ 60)) (fun _ _ i _ => l0.length - (intOf i).toNat)
  case atStart => exact ⟨0, b2, qb, 0, _, rfl, Nat.zero_le _, rfl, rfl, rfl, ⟨HS4.out, Nat.zero_le _⟩⟩
  case round =>
    clear HS4
    rename_i hkl1
    obtain ⟨j, b2, qb, k2, wr, rfl, hj, rfl, rfl, rfl, HLJ⟩ := hrel
    by_cases hlt : j < l0.length
    · clear hkl1
      obtain ⟨x0b, x0o, rfl, hxb, hop⟩ := SlE.opAt HS.out (Below.refl _ _) j hlt
      have HOP := Lib.hid hop
      have HXB := Lib.hid hxb
      have HOJ : Hid (okO l0[j]) := HO.out.1 _ (List.getElem_mem hlt)
      have h0 : (0 : Int) ≤ (j : Int) := by omega
      have hj1 : (j : Int) < (l0.length : Int) := by omega
      have HLT := Lib.hid hlt
      generalize l0[j] = x at *
      clear hop hxb hlt
      by_cases hat : (j : Int) = a1
      · have e1 : ((j : Int) == a1) = true := by rw [hat]; simp
        clear hat
        go_wp2_with fail
        refine (s4_copy HLJ.out.1 (by have := HLEN.out; have := HLT.out; omega)).mono ?_
        rintro e w7 ⟨b3, rfl, G, p, hpb, ht, hp, lp, hz⟩
        have HT7 := Lib.hid ht
        have HP7 := Lib.hid hp
        have HLP := Lib.hid lp
        have HSZ := Lib.hid hz
        have HB7 := Lib.hid ht.bl
        clear ht hp lp hz
        subst hpb
        go_wp2_with fail
        refine (s4_rcopy HT7.out (by have := HLEN.out; have := HLT.out; omega) HP7.out HLP.out HSZ.out).mono ?_
        rintro e w8 ⟨qb3, rfl, hs⟩
        have HX := Lib.hid hs
        have HK2 : Hid (j ≤ 60) := by have := HLEN.out; have := HLT.out; show _ ≤ _; omega
        clear hs HT7 HP7 HLP HSZ HB7 HLJ
        go_wp2_with fail
        refine wp_region_tree (fun W => OpAt W x0b (x0o + j * 6) x) 11 (.quiet 0 (.quiet 1 (.quiet 2 (.quiet 3 (.quiet 4 (.quiet 6 (.quiet 7 (.quiet 8 (.quiet 9 (.quiet 10 (.make 5 .nil))))))))))) (by kernel_rfl) (by kernel_rfl) (HOP.out.keep (HX.out.keep (⟨rfl, rfl, rfl, Nat.le_refl _, fun _ _ => rfl⟩ : Below w8.heap.size w8 w8.drew)).bl HXB.out) ?_
        simp only [List.drop_succ_cons, List.drop_zero]
        have HXD := Lib.hid (HX.out.keep (⟨rfl, rfl, rfl, Nat.le_refl _, fun _ _ => rfl⟩ : Below w8.heap.size w8 w8.drew))
        iterate 10 (apply wpTr_step rfl; (intro W hS K hK; obtain ⟨u0, u1, u2, u3, u4, u5⟩ := hS; go_simp; exact hK _ rfl))
        have HD := Lib.hid (s4_do HXD.out HI.out (by have := HLEN.out; have := HLT.out; have := HK2.out; omega) x HOJ.out)
        unfold opV opA at HD
        refine wpTr_make rfl (fun K' hK => ?_)
        go_simp
        refine HD.out.mono ?_
        rintro e w9 ⟨A, va, vc, rfl, hm, hal⟩
        have HMM := Lib.hid hm
        have HAL : Hid (A.names.length ≤ 100000) := Nat.le_trans hal (by decide)
        have hop9 : OpAt w9 x0b (x0o + j * 6) x := HOP.out.keep hm.bl HXB.out
        refine hK _ _ _ (fun _ h => h) hop9 ?_
        clear hK K' hm hal hop9 HD HX HXD HOP
        refine wpTr_nil ?_
        have HD := Lib.hid (s4_rdo HMM.out HI.out (by have := HLEN.out; have := HLT.out; have := HK2.out; omega) HOJ.out)
        unfold opV opA at HD
        unfold ansV
        go_wp2_with fail
        refine HD.out.mono ?_
        rintro e w10 ⟨vb, vd, rfl, hs, hsa, hsb⟩
        have HX := Lib.hid hs
        have hss := same_ans A A va vb vc vd w10 hsa hsb HAL.out
        rw [decide_eq_true (rfl : A = A)] at hss
        have HSS := Lib.hid hss
        unfold ansV at HSS
        clear hs hsa hsb hss HMM HD
        unfold ansV
        go_wp2_with fail
        refine HSS.out.mono ?_
        rintro e w11 ⟨rfl, hb⟩
        have HX11 := Lib.hid (HX.out.keep hb)
        clear hb HSS HX
        have hlt := HLT.out
        have hkk : j + 1 ≤ 100 := by have := HLEN.out; omega
        go_wp2
        go_roundw
        case rel => exact ⟨j + 1, b3, qb3, j, _, rfl, by omega, by go_num, rfl, rfl, ⟨HX11.out, HK2.out⟩⟩
        case measure => simp [intOf]; omega
      · have e1 : ((j : Int) == a1) = false := by simpa using hat
        have HX := Lib.hid HLJ.out.1
        have HK2 := Lib.hid HLJ.out.2
        clear hat HLJ
        go_wp2_with fail
        refine wp_region_tree (fun W => OpAt W x0b (x0o + j * 6) x) 11 (.quiet 0 (.quiet 1 (.quiet 2 (.quiet 3 (.quiet 4 (.quiet 6 (.quiet 7 (.quiet 8 (.quiet 9 (.quiet 10 (.make 5 .nil))))))))))) (by kernel_rfl) (by kernel_rfl) (HOP.out.keep (HX.out.keep (⟨rfl, rfl, rfl, Nat.le_refl _, fun _ _ => rfl⟩ : Below wr.heap.size wr wr.drew)).bl HXB.out) ?_
        simp only [List.drop_succ_cons, List.drop_zero]
        have HXD := Lib.hid (HX.out.keep (⟨rfl, rfl, rfl, Nat.le_refl _, fun _ _ => rfl⟩ : Below wr.heap.size wr wr.drew))
        iterate 10 (apply wpTr_step rfl; (intro W hS K hK; obtain ⟨u0, u1, u2, u3, u4, u5⟩ := hS; go_simp; exact hK _ rfl))
        have HD := Lib.hid (s4_do HXD.out HI.out (by have := HLEN.out; have := HLT.out; have := HK2.out; omega) x HOJ.out)
        unfold opV opA at HD
        refine wpTr_make rfl (fun K' hK => ?_)
        go_simp
        refine HD.out.mono ?_
        rintro e w9 ⟨A, va, vc, rfl, hm, hal⟩
        have HMM := Lib.hid hm
        have HAL : Hid (A.names.length ≤ 100000) := Nat.le_trans hal (by decide)
        have hop9 : OpAt w9 x0b (x0o + j * 6) x := HOP.out.keep hm.bl HXB.out
        refine hK _ _ _ (fun _ h => h) hop9 ?_
        clear hK K' hm hal hop9 HD HX HXD HOP
        refine wpTr_nil ?_
        have HD := Lib.hid (s4_rdo HMM.out HI.out (by have := HLEN.out; have := HLT.out; have := HK2.out; omega) HOJ.out)
        unfold opV opA at HD
        unfold ansV
        go_wp2_with fail
        refine HD.out.mono ?_
        rintro e w10 ⟨vb, vd, rfl, hs, hsa, hsb⟩
        have HX := Lib.hid hs
        have hss := same_ans A A va vb vc vd w10 hsa hsb HAL.out
        rw [decide_eq_true (rfl : A = A)] at hss
        have HSS := Lib.hid hss
        unfold ansV at HSS
        clear hs hsa hsb hss HMM HD
        unfold ansV
        go_wp2_with fail
        refine HSS.out.mono ?_
        rintro e w11 ⟨rfl, hb⟩
        have HX11 := Lib.hid (HX.out.keep hb)
        clear hb HSS HX
        have hlt := HLT.out
        have hkk : j + 1 ≤ 100 := by have := HLEN.out; omega
        go_wp2
        go_roundw
        case rel => exact ⟨j + 1, b2, qb, k2, _, rfl, by omega, by go_num, rfl, rfl, ⟨HX11.out, HK2.out⟩⟩
        case measure => simp [intOf]; omega
    · have hke : j = l0.length := by omega
      clear hlt hj
      subst hke
      have HX := Lib.hid HLJ.out.1
      have HK2 := Lib.hid HLJ.out.2
      clear HLJ
      obtain ⟨n1, n2, n3, hc1, hc2⟩ := s4_count HX.out (by have := HLEN.out; omega)
      have HC1 := Lib.hid hc1
      have HC2 := Lib.hid hc2
      clear hc1 hc2
      go_wp2_with fail
      refine HC1.out.mono ?_
      rintro e w7 ⟨rfl, hb⟩
      have HX7 := Lib.hid (HX.out.swap.keep hb)
      have HC3 := Lib.hid (HC2.out w7 hb)
      clear hb HC1 HC2 HX
      go_wp2_with fail
      refine HC3.out.mono ?_
      rintro e w8 ⟨rfl, rfl⟩
      clear HC3
      go_wp2_with fail
      go_loopw [16] (fun i wr => ∃ (j : Nat), ∃ wz : World, wz = wr ∧ j ≤ l0.length ∧ i = .int .i64 j ∧ Hid (S4 w1 b2 b qb pb (k2 + j) l0.length wr)) (fun i _ => l0.length - (intOf i).toNat)
      case atStart => exact ⟨0, _, rfl, Nat.zero_le _, rfl, HX7.out⟩
      case round =>
        clear HX7
        rename_i hkl2
        obtain ⟨j, wr, rfl, hj, rfl, HX⟩ := hrel
        by_cases hlt : j < l0.length
        · clear hkl2
          obtain ⟨x0b, x0o, rfl, hxb, hop⟩ := SlE.opAt HS.out (Below.refl _ _) j hlt
          have HOP := Lib.hid hop
          have HXB := Lib.hid hxb
          have HOJ : Hid (okO l0[j]) := HO.out.1 _ (List.getElem_mem hlt)
          have h0 : (0 : Int) ≤ (j : Int) := by omega
          have hj1 : (j : Int) < (l0.length : Int) := by omega
          have HLT := Lib.hid hlt
          generalize l0[j] = x at *
          clear hop hxb hlt
          go_wp2_with fail
          refine wp_region_tree (fun W => OpAt W x0b (x0o + j * 6) x) 11 (.quiet 0 (.quiet 1 (.quiet 2 (.quiet 3 (.quiet 4 (.quiet 6 (.quiet 7 (.quiet 8 (.quiet 9 (.quiet 10 (.make 5 .nil))))))))))) (by kernel_rfl) (by kernel_rfl) (HOP.out.keep (HX.out.keep (⟨rfl, rfl, rfl, Nat.le_refl _, fun _ _ => rfl⟩ : Below wr.heap.size wr wr.drew)).bl HXB.out) ?_
          simp only [List.drop_succ_cons, List.drop_zero]
          have HXD := Lib.hid (HX.out.keep (⟨rfl, rfl, rfl, Nat.le_refl _, fun _ _ => rfl⟩ : Below wr.heap.size wr wr.drew))
          iterate 10 (apply wpTr_step rfl; (intro W hS K hK; obtain ⟨u0, u1, u2, u3, u4, u5⟩ := hS; go_simp; exact hK _ rfl))
          have HD := Lib.hid (s4_do HXD.out HI.out (by have := HLEN.out; have := HLT.out; have := HK2.out; omega) x HOJ.out)
          unfold opV opA at HD
          refine wpTr_make rfl (fun K' hK => ?_)
          go_simp
          refine HD.out.mono ?_
          rintro e w9 ⟨A, va, vc, rfl, hm, hal⟩
          have HMM := Lib.hid hm
          have HAL : Hid (A.names.length ≤ 100000) := Nat.le_trans hal (by decide)
          have hop9 : OpAt w9 x0b (x0o + j * 6) x := HOP.out.keep hm.bl HXB.out
          refine hK _ _ _ (fun _ h => h) hop9 ?_
          clear hK K' hm hal hop9 HD HX HXD HOP
          refine wpTr_nil ?_
          have HD := Lib.hid (s4_rdo HMM.out HI.out (by have := HLEN.out; have := HLT.out; have := HK2.out; omega) HOJ.out)
          unfold opV opA at HD
          unfold ansV
          go_wp2_with fail
          refine HD.out.mono ?_
          rintro e w10 ⟨vb, vd, rfl, hs, hsa, hsb⟩
          have HX := Lib.hid hs
          have hss := same_ans A A va vb vc vd w10 hsa hsb HAL.out
          rw [decide_eq_true (rfl : A = A)] at hss
          have HSS := Lib.hid hss
          unfold ansV at HSS
          clear hs hsa hsb hss HMM HD
          unfold ansV
          go_wp2_with fail
          refine HSS.out.mono ?_
          rintro e w11 ⟨rfl, hb⟩
          have HX11 := Lib.hid (HX.out.keep hb)
          clear hb HSS HX
          have hlt := HLT.out
          have hkk : j + 1 ≤ 100 := by have := HLEN.out; omega
          go_wp2
          go_roundw
          case rel => exact ⟨j + 1, _, rfl, by omega, by go_num, HX11⟩
          case measure => simp [intOf]; omega
        · have hke : j = l0.length := by omega
          clear hlt hj
          subst hke
          have HLV := Lib.hid (live_any _ HX.out.it)
          go_wp2_with fail
          refine HLV.out.mono ?_
          rintro e wl ⟨rfl, hb⟩
          have HL := Lib.hid (HX.out.bl.trans (hb.mono HX.out.bl.size))
          clear hb
          go_wp2
          go_ret
          exact ⟨rfl, HL.out⟩
end Go.Proofs.YteimpebfenpifaaGreatDoor.modelScripts
