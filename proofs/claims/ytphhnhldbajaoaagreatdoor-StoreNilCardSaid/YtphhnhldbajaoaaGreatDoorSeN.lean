/-
  Package second: recall.
-/
import Derived.Test.YtphhnhldbajaoaaGreatDoorMg31
namespace Go.Proofs.YtphhnhldbajaoaaGreatDoor
open Go Go.RowKit Go.ChangeShapes Go.WideShapes Go.ChangeAt

theorem Bks.chg {w w' : World} {base : Nat} {v : Value} {l : List BkD} {S : List Nat} (h : Bks w base v l) (hc : Chg S w w') (hS : ∀ k ∈ S, k < base) (ho : ∀ y ∈ l, ∀ b off, y.a = some ⟨b, off, none⟩ → base ≤ b) : Bks w' base v l := by
  refine ⟨ownsRow_of h.row fun k hk hlt => hc.block k hlt (fun hm => ?_), fun y hy hne => ?_⟩
  · have := hS k hm
    have := (World.ownsRow.lt h.row k hk).1
    omega
  · obtain ⟨b, off, e, hlt, hcell⟩ := h.ents y hy hne
    have hb := ho y hy b off e
    have hblk := hc.block b hlt (fun hm => by have := hS b hm; omega)
    exact ⟨b, off, e, Nat.lt_of_lt_of_le hlt hc.size, fun i z hz j u hu => (World.cell?_of_block (a := ⟨b, off + i * 4 + j, none⟩) hblk).trans (hcell i z hz j u hu)⟩

theorem plus7_518 {f : Nat} (hh : f ≤ 518) : wrap64 ((f : Int) + 7) = ((f + 7 : Nat) : Int) := by rw [IntWalk.wrap64_in _ (by omega)]; rfl
theorem meas7 {f : Nat} (hh : f ≤ 518) : 1000 - (RowKit.intOf (.int .i64 (wrap64 ((f : Int) + 7)))).toNat < 1000 - (RowKit.intOf (.int .i64 (f : Int))).toNat := by
  rw [plus7_518 hh]
  show 1000 - (((f + 7 : Nat) : Int)).toNat < 1000 - ((f : Int)).toNat
  rw [Int.toNat_natCast, Int.toNat_natCast]
  omega
theorem put_max (e : List EnD) (l : List CgE) (j : Nat) (h1 : e.length ≤ 10000) (h2 : l.length ≤ 600) : (putAll e (l.take j)).length < maxLen := by
  have h3 := putAll_len (l.take j) e
  have h4 : (l.take j).length ≤ l.length := by rw [List.length_take]; exact Nat.min_le_right _ _
  exact Nat.lt_of_le_of_lt (Nat.le_trans h3 (Nat.add_le_add h1 (Nat.le_trans h4 h2))) (by decide)
/-- What stands between two rounds of recall. -/
structure RcJ (s b m : Nat) (d : DevD) (x : SecD) (w : World) (i : Nat) (v : Value) (L : List BkD) (W : World) : Prop where
  chg : Chg [s, m] w W
  sec : SecAt W s b m (recT d x i).2
  row : Bks W w.heap.size v L
  own : ∀ y ∈ L, ∀ bb off, y.a = some ⟨bb, off, none⟩ → v.ownBlock ≠ some bb ∧ w.heap.size ≤ bb ∧ bb < W.heap.size
  map : L.map bkM = (recT d x i).1
theorem RcJ.keep {s b m : Nat} {d : DevD} {x : SecD} {w : World} {i : Nat} {v : Value} {L : List BkD} {W W' : World} (h : RcJ s b m d x w i v L W) (hb : Below W.heap.size W W') : RcJ s b m d x w i v L W' :=
  ⟨h.chg.trans (Chg.of hb (Nat.le_refl _)), h.sec.keep hb, h.row.keep hb, fun y hy bb off e => ⟨(h.own y hy bb off e).1, (h.own y hy bb off e).2.1, Nat.lt_of_lt_of_le (h.own y hy bb off e).2.2 hb.size⟩, h.map⟩

/-- Behind a round that took a block up: the cache's cells alone have changed. -/
theorem RcJ.next {s b m : Nat} {d : DevD} {x : SecD} {w w5 W : World} {i : Nat} {v : Value} {L : List BkD} {x' : SecD} (h1 : Chg [s, m] w w5) (h2 : Bks w5 w.heap.size v L) (h3 : ∀ y ∈ L, ∀ bb off, y.a = some ⟨bb, off, none⟩ → v.ownBlock ≠ some bb ∧ w.heap.size ≤ bb ∧ bb < w5.heap.size)
    (hs : s < w.heap.size ∧ m < w.heap.size) (hc : Chg [s] w5 W) (hx : SecAt W s b m x') (he : recT d x (i + 1) = (L.map bkM, x')) : RcJ s b m d x w (i + 1) v L W := by
  refine ⟨h1.trans (hc.mono (by simp)), by rw [he]; exact hx, h2.chg hc (fun k hk => by rw [List.mem_singleton.1 hk]; exact hs.1) (fun y hy bb off e => (h3 y hy bb off e).2.1), fun y hy bb off e => ⟨(h3 y hy bb off e).1, (h3 y hy bb off e).2.1, Nat.lt_of_lt_of_le (h3 y hy bb off e).2.2 hc.size⟩, by rw [he]⟩

section
variable {B : Nat} {P : List Nat → World → Prop} (hP : Fixed P) {b s : Nat} {d : DevD} {x : SecD} {w : World} (h : One B (Both P (ScF s b x)) b d w) (hx : x.f ≤ 512) (hn : x.n ≤ 512)
include hP h hx hn

set_option maxRecDepth 100000 in
set_option maxHeartbeats 4000000 in
theorem recall_any (h2n : 2 ≤ x.n) (hK : Kt w) (hB : 0 < B) (hT : ∀ l, (tellD d l).size ≤ 1000000) (he : x.e.length ≤ 10000) :
    Calls Tryz.prog 109 #[.pointer (some ⟨s, 0, none⟩)] w fun e w' => e = .returned (.tuple #[]) ∧ One B (Both P (ScF s b (recX d x))) b d w' ∧ Below B w w' := by
  have HX := Lib.hid hx
  have HN := Lib.hid hn
  have HBP := Lib.hid hB
  have HP := Lib.hid hP
  have HT := Lib.hid hT
  have HK := Lib.hid hK
  have HE := Lib.hid he
  have HR : Hid (1 ≤ roomN x.n ∧ roomN x.n ≤ 512) := ⟨room_pos h2n, Nat.le_trans (room_le _) hn⟩
  obtain ⟨m, hs, hBs, hBm, hto⟩ := h.secE hP
  have HLT : Hid (s < w.heap.size ∧ m < w.heap.size) := ⟨hs.box.lt, hs.map.lt⟩
  have HTO := Lib.hid hto
  have HJ0 : Hid (RcJ s b m d x w 0 (.slice none 0 0) [] w) := ⟨Chg.refl _ _, hs, Bks.nil _ _, fun y hy => (by cases hy), rfl⟩
  clear h hP hx hn hB hT hK he h2n hs hto
  go_enter Tryz.func109, Tryz.ntmps109
  go_wp2_with fail
  go_loopw [2, 3] (fun tv iv wr => ∃ (i : Nat) (L : List BkD), i ≤ groups x.n ∧ iv = .int .i64 ((7 * i : Nat) : Int) ∧ Hid (RcJ s b m d x w i tv L wr)) (fun _ iv _ => 1000 - (RowKit.intOf iv).toNat)
  case atStart => exact ⟨0, [], Nat.zero_le _, rfl, HJ0⟩
  case round =>
    clear HJ0
    obtain ⟨i, L, hi, rfl, HJ⟩ := hrel
    have HI : Hid (i ≤ groups x.n ∧ i ≤ 74) := ⟨hi, by have := HR.out.2; unfold groups at hi; omega⟩
    have HOK := Lib.hid (recT_ok d x i)
    have HRA := Lib.hid (room_any s b m (recT d x i).2 wr HJ.out.sec.box (by rw [HOK.out.n]; exact HN.out))
    rw [HOK.out.n] at HRA
    obtain ⟨fi, hfi⟩ : ∃ fi, fi = 7 * i := ⟨_, rfl⟩
    rw [← hfi]
    have HFI : Hid (fi = 7 * i ∧ fi ≤ 518) := ⟨hfi, by have := HI.out.2; omega⟩
    have hw7 := plus7_518 HFI.out.2
    obtain ⟨rm, hrm⟩ : ∃ rm, rm = roomN x.n := ⟨_, rfl⟩
    rw [← hrm] at HRA
    have HRM := Lib.hid hrm
    clear hi hfi hrm
    go_wp2_with fail
    refine HRA.out.mono ?_
    rintro e w1 ⟨rfl, hb⟩
    have HJ1 := Lib.hid (HJ.out.keep hb)
    have HLL : Hid (L.length ≤ i) := by
      have h1 := congrArg List.length HJ1.out.map
      have h2 := HOK.out.len
      rw [List.length_map] at h1
      show _ ≤ _
      omega
    clear hb HJ HRA
    by_cases hlt : fi < rm
    · have d1 : (fi : Int) < (rm : Int) := by omega
      have HLT7 := Lib.hid hlt
      have HRL := Lib.hid (readlog_any HP.out (HTO.out _ _ HJ1.out.chg HJ1.out.sec).1 (by rw [HOK.out.f]; exact HX.out) (by rw [HOK.out.n]; exact HN.out) (HK.out.below (HTO.out _ _ HJ1.out.chg HJ1.out.sec).2 HBP.out) HBP.out HT.out fi (by have := HFI.out.2; omega))
      rw [readX_eq HOK.out.f HOK.out.n] at HRL
      obtain ⟨r, hr⟩ : ∃ r, readX d x fi = r := ⟨_, rfl⟩
      rw [hr] at HRL
      have HRR := Lib.hid hr
      clear hlt hr
      go_wp2_with fail
      refine HRL.out.mono ?_
      rintro e w2 ⟨⟨v2, rfl, hc⟩, _, hb⟩
      obtain ⟨ok, q, es⟩ := r
      simp only at hc ⊢
      have HJ2 := Lib.hid (HJ1.out.keep hb)
      obtain ⟨va, vc, rfl, hsl, hown⟩ := hc.view2
      have HOW : Hid (∀ bb off, va = some ⟨bb, off, none⟩ → w1.heap.size ≤ bb ∧ bb < w2.heap.size) := hown
      have HZ12 := Lib.hid hb.size
      have hx3 := (Below.refl w2.heap.size w2).alloc (Nat.le_refl _) (.cells #[.int .i64 q, .slice va es.length vc] 187)
      have BN := Lib.hid (Box.new w2 187 #[.int .i64 q, .slice va es.length vc])
      have HJ3 := Lib.hid (HJ2.out.keep hx3)
      have HSL3 := Lib.hid (hsl.keep hx3)
      have HZ3 := Lib.hid hx3.size
      clear hb hc hsl hown hx3 HRL
      obtain ⟨nb, hnb⟩ : ∃ nb, nb = w2.heap.size := ⟨_, rfl⟩
      rw [← hnb] at BN
      have HNB := Lib.hid hnb
      cases ok with
      | false =>
        have HST := Lib.hid (recS_no (st := recT d x i) (show (readX d x fi).1 = false from by rw [HRR.out]))
        go_wp2_with fail
        clear hnb
        have hgr : i + 1 ≤ groups x.n := by
          have h1 := HLT7.out
          have h2 := HFI.out.1
          have h3 := HRM.out
          unfold groups
          omega
        have HGR := Lib.hid hgr
        have HJ4 : Hid (RcJ s b m d x w (i + 1) u2 L (w2.alloc (.cells #[.int .i64 q, .slice va es.length vc] 187))) := by
          have hst := HST.out
          rw [HFI.out.1] at hst
          have e1 : recT d x (i + 1) = recT d x i := by rw [recT_succ]; exact hst
          exact ⟨HJ3.out.chg, by rw [e1]; exact HJ3.out.sec, HJ3.out.row, HJ3.out.own, by rw [e1]; exact HJ3.out.map⟩
        clear hgr
        go_roundw
        case rel => exact ⟨i + 1, L, HGR.out, by rw [hw7, HFI.out.1]; rfl, HJ4⟩
        case measure => exact meas7 HFI.out.2
      | true =>
        obtain ⟨qn, hqn, hqm⟩ := readX_seq d x fi
        have hqq : q = (qn : Int) := by rw [HRR.out] at hqn; exact hqn
        subst hqq
        have HRD : Hid ((readX d x fi).1 = true ∧ (readX d x fi).2 = ((qn : Int), es)) := ⟨by rw [HRR.out], by rw [HRR.out]⟩
        have hx4 := (Below.refl _ _).alloc (Nat.le_refl (w2.alloc (.cells #[.int .i64 (qn : Int), .slice va es.length vc] 187)).heap.size) (.cells #[.int .i64 (qn : Int), .slice va es.length vc] 187)
        have EB := Lib.hid (Box.new (w2.alloc (.cells #[.int .i64 (qn : Int), .slice va es.length vc] 187)) 187 #[.int .i64 (qn : Int), .slice va es.length vc])
        have BN4 := Lib.hid (BN.out.keep hx4 BN.out.lt)
        have HJ4 := Lib.hid (HJ3.out.keep hx4)
        have HSL4 := Lib.hid (HSL3.out.keep hx4)
        have HZ4 := Lib.hid hx4.size
        have u0 := BN.out.cell 0 _ rfl
        have u1 := BN.out.cell 1 _ rfl
        rw [hnb] at u0 u1
        clear hx4 hqn HJ2 HJ3 HSL3 hnb
        go_wp2_with (with_reducible refine wp_bks_push Tryz.underlying184 _ rfl (.tmp 22) (.tmp 24) rfl w.heap.size _ L rfl ?a1 (w2.heap.size + 1) 1 ⟨qn, va, vc, es⟩ ?a2 ?a3 ?a4 ?a5 ?a6 ?a7 ?a8)
        case a1 => exact HJ4.out.row
        try (case a2 => rfl)
        case a3 => intro j u hj; rw [size_alloc] at EB; exact EB.out.cell j u (by simpa [bkL] using hj)
        case a4 => exact HSL4.out
        case a5 =>
          intro y hy bb off e
          rcases List.mem_append.1 hy with h | h
          · exact (HJ1.out.own y h bb off e).1
          · rw [List.mem_singleton.1 h] at e
            intro e2
            have h1 := (HOW.out bb off e).1
            have h2 := (World.ownsRow.lt HJ1.out.row.row bb e2).2
            omega
        case a6 => have := HLL.out; have := HI.out.2; omega
        case a7 => exact HJ4.out.chg.size
        case a8 =>
          intro v5 w5 hB5 hg5 hob5
          have HC5 : Hid (Chg [s, m] w w5) := HJ4.out.chg.then (chg_grown hg5) (fun k hk => .inr (by
            have : u2.ownBlock = some k := by simpa using hk
            exact (World.ownsRow.lt HJ4.out.row.row k this).1))
          have hkeep : ∀ k, k < w.heap.size → w5.heap[k]? = (World.alloc (World.alloc w2 _) _).heap[k]? := fun k hk => hg5.block k (Nat.lt_of_lt_of_le hk HJ4.out.chg.size) (fun e => by
            have := (World.ownsRow.lt HJ4.out.row.row k e.symm).1
            omega)
          have HS5 : Hid (SecAt w5 s b m (recT d x i).2) := HJ4.out.sec.of (hkeep s HLT.out.1) (hkeep m HLT.out.2)
          have BN5 : Hid (Box w5 nb 187 #[.int .i64 (qn : Int), .slice va es.length vc]) := BN4.out.of (hg5.block nb BN4.out.lt (fun e => by
            have h2 := (World.ownsRow.lt HJ1.out.row.row nb e.symm).2
            have := HZ12.out
            have := HNB.out
            omega))
          have HO5 : Hid (∀ y ∈ L ++ [⟨(qn : Int), va, vc, es⟩], ∀ bb off, y.a = some ⟨bb, off, none⟩ → v5.ownBlock ≠ some bb ∧ w.heap.size ≤ bb ∧ bb < w5.heap.size) := by
            intro y hy bb off e
            have hlt5 : bb < w2.heap.size ∧ w.heap.size ≤ bb ∧ u2.ownBlock ≠ some bb := by
              rcases List.mem_append.1 hy with h | h
              · have := HJ1.out.own y h bb off e
                exact ⟨Nat.lt_of_lt_of_le this.2.2 HZ12.out, this.2.1, this.1⟩
              · rw [List.mem_singleton.1 h] at e
                have h1 := HOW.out bb off e
                have h0 := HJ1.out.chg.size
                refine ⟨h1.2, by omega, fun e2 => ?_⟩
                have h2 := (World.ownsRow.lt HJ1.out.row.row bb e2).2
                omega
            have hz5 := hg5.size
            have hz4 := HZ4.out
            have hz3 := HZ3.out
            refine ⟨?_, hlt5.2.1, by omega⟩
            rcases hob5 with e5 | e5
            · rw [e5]; exact hlt5.2.2
            · rw [e5]
              intro e6
              injection e6 with e6
              omega
          have HB5 := Lib.hid hB5
          have HMAP : Hid ((L ++ ([⟨(qn : Int), va, vc, es⟩] : List BkD)).map bkM = (recT d x i).1 ++ [((qn : Int), es)]) := by
            show _ = _
            rw [List.map_append, HJ1.out.map]
            rfl
          obtain ⟨xi, hxi⟩ : ∃ xi, (recT d x i).2 = xi := ⟨_, rfl⟩
          have HXI := Lib.hid hxi
          have HXF : Hid (xi.f = x.f ∧ xi.n = x.n) := ⟨by rw [← hxi]; exact HOK.out.f, by rw [← hxi]; exact HOK.out.n⟩
          rw [hxi] at HS5
          have t0 : w5.cell? ⟨nb, 0, none⟩ = some (.int .i64 (qn : Int)) := BN5.out.cell 0 _ rfl
          have t4 : w5.cell? ⟨s, 4, none⟩ = some (.int .i64 (xi.num : Int)) := HS5.out.box.cell 4 _ rfl
          have HGR : Hid (i + 1 ≤ groups x.n) := by
            have h1 := HLT7.out
            have h2 := HFI.out.1
            have h3 := HRM.out
            show _ ≤ _
            unfold groups
            omega
          rw [← HNB.out]
          clear hB5 hg5 hob5 hkeep hxi EB BN4 HJ4 HSL4 HZ4 BN u0 u1 HJ1
          go_wp2_with fail
          refine wp_region_tree (fun W => W.cell? ⟨nb, 0, none⟩ = some (.int .i64 (qn : Int)) ∧ W.cell? ⟨s, 4, none⟩ = some (.int .i64 (xi.num : Int))) 6 (.quiet 0 (.quiet 1 (.quiet 2 (.quiet 3 (.quiet 4 (.quiet 5 .nil)))))) (by kernel_rfl) (by kernel_rfl) ⟨t0, t4⟩ ?_
          simp only [List.drop_succ_cons, List.drop_zero]
          iterate 6 (apply wpTr_step rfl; (intro W hS K hK; obtain ⟨r1, r2⟩ := hS; go_simp; exact hK _ rfl))
          refine wpTr_nil ?_
          by_cases hnum : xi.num ≤ qn
          · have d2 : (xi.num : Int) ≤ (qn : Int) := by omega
            have HST := Lib.hid (recS_new (st := recT d x i) (q := qn) HRD.out.1 (by rw [HRD.out.2]) (by rw [HXI.out]; exact hnum))
            have f4 : w5.frozen? ⟨s, 4, none⟩ = false := HS5.out.box.free 4
            clear hnum
            go_wp2_with fail
            obtain ⟨w6, hw6⟩ : ∃ w6, w6 = (w5.setCell ⟨s, 4, none⟩ (.int .i64 (qn : Int))).drew := ⟨_, rfl⟩
            have hbx : Box (w5.setCell ⟨s, 4, none⟩ (.int .i64 (qn : Int))).drew s 158 _ := HS5.out.box.set 4 (.int .i64 (qn : Int))
            have hcs : Chg [s] w5 w6 := by rw [hw6]; exact ((Chg.refl _ w5).set s 4 _ (.inl (by simp))).trans (Chg.of (Below.refl _ _).drew (Nat.le_refl _))
            rw [← hw6] at hbx ⊢
            have HC6 := Lib.hid hcs
            have HS6 : Hid (SecAt w6 s b m { xi with num := qn }) := ⟨hbx, HS5.out.map.of (hcs.block m HS5.out.map.lt (by simp; exact fun e => HS5.out.ne e.symm)), HS5.out.ne⟩
            clear hbx hcs hw6 f4 t4 t0 d2
            have HBH := Lib.hid (behind_any s b m { xi with num := qn } w6 fi HS6.out.box (by show xi.n ≤ _; rw [HXF.out.2]; exact HN.out) (by have := HFI.out.2; omega))
            obtain ⟨bh, hbh⟩ : ∃ bh : Nat, bh = behX x fi := ⟨_, rfl⟩
            rw [show ((if roomN ({ xi with num := qn } : SecD).n ≤ fi + 7 then 0 else fi + 7 : Nat)) = bh from by rw [hbh]; show (if roomN xi.n ≤ fi + 7 then 0 else fi + 7 : Nat) = _; rw [HXF.out.2]; rfl] at HBH
            have HBE := Lib.hid hbh
            clear hbh
            refine HBH.out.mono ?_
            rintro e w7 ⟨rfl, hb⟩
            have HS7 := Lib.hid (HS6.out.keep hb)
            have HC7 : Hid (Chg [s] w5 w7) := HC6.out.trans (Chg.of hb (Nat.le_refl _))
            have t5 : w7.cell? ⟨s, 5, none⟩ = some (.int .i64 (xi.hand : Int)) := HS7.out.box.cell 5 _ rfl
            have f5 : w7.frozen? ⟨s, 5, none⟩ = false := HS7.out.box.free 5
            clear hb HS6 HC6 HBH
            go_wp2_with fail
            have hbx7 := HS7.out.box.set 5 (.int .i64 (bh : Int))
            have HNX : Hid (RcJ s b m d x w (i + 1) v5 (L ++ [⟨(qn : Int), va, vc, es⟩]) (w7.setCell ⟨s, 5, none⟩ (.int .i64 (bh : Int)))) := by
              refine RcJ.next (x' := { xi with num := qn, hand := bh }) HC5.out HB5.out HO5.out HLT.out (HC7.out.set s 5 _ (.inl (by simp))) ⟨hbx7, HS7.out.map.of (heap_setCell_other w7 ⟨s, 5, none⟩ m _ (fun e => HS7.out.ne e.symm)), HS7.out.ne⟩ ?_
              rw [recT_succ, ← HFI.out.1, HST.out, HMAP.out, HRD.out.2, HXI.out, HBE.out]
            clear hbx7 t5 f5
            go_roundw
            case rel => exact ⟨i + 1, L ++ [⟨(qn : Int), va, vc, es⟩], HGR.out, by rw [hw7, HFI.out.1]; rfl, HNX⟩
            case measure => exact meas7 HFI.out.2
          · have d2 : ¬ (xi.num : Int) ≤ (qn : Int) := by omega
            have HST := Lib.hid (recS_old (st := recT d x i) (q := qn) HRD.out.1 (by rw [HRD.out.2]) (by rw [HXI.out]; exact hnum))
            clear hnum
            go_wp2_with fail
            have HNX : Hid (RcJ s b m d x w (i + 1) v5 (L ++ [⟨(qn : Int), va, vc, es⟩]) w5.drew) := by
              refine RcJ.next HC5.out HB5.out HO5.out HLT.out (Chg.of (Below.refl _ w5).drew (Nat.le_refl _)) (HS5.out.keep (Below.refl _ w5).drew) ?_
              rw [recT_succ, ← HFI.out.1, HST.out, HMAP.out, HRD.out.2, HXI.out]
            go_roundw
            case rel => exact ⟨i + 1, L ++ [⟨(qn : Int), va, vc, es⟩], HGR.out, by rw [hw7, HFI.out.1]; rfl, HNX⟩
            case measure => exact meas7 HFI.out.2
    · have d1 : ¬ (fi : Int) < (rm : Int) := by omega
      have HIG : Hid (i = groups x.n) := by
        have h1 := HI.out.1
        have h2 := HFI.out.1
        have h3 := HRM.out
        show _ = _
        unfold groups at h1 ⊢
        omega
      clear hlt
      obtain ⟨ta, tc, rfl, htl⟩ := HJ1.out.row.view
      have HME := Lib.hid (cmerge_ok ta tc L w1 htl (by have := HLL.out; have := HI.out.2; omega))
      rw [HJ1.out.map] at HME
      clear htl
      go_wp2_with fail
      refine HME.out.mono ?_
      rintro e w2 ⟨v2, rfl, hc, hb⟩
      have HJ2 := Lib.hid (HJ1.out.keep hb)
      obtain ⟨ml, hml⟩ : ∃ ml, ml = mergeL (recT d x i).1 := ⟨_, rfl⟩
      rw [← hml] at hc
      have HML := Lib.hid hml
      have HWF : Hid (∀ j (hj : j < ml.length), (Lit.int .i64 (ml[j]).pos).wf = true) := by
        show ∀ j (hj : j < ml.length), _
        subst hml
        exact mergeL_may _
      have HLEN : Hid (ml.length ≤ 600) := by
        show _ ≤ _
        rw [hml]
        have h1 := mergeL_len (recT d x i).1
        have h2 := HOK.out.len
        have h3 := HI.out.2
        omega
      obtain ⟨va, vc, rfl, hsl, hown⟩ := hc.view2
      have HSL := Lib.hid hsl
      have HOW : Hid (∀ bb off, va = some ⟨bb, off, none⟩ → w1.heap.size ≤ bb ∧ bb < w2.heap.size) := hown
      have HZ1 := Lib.hid HJ1.out.chg.size
      have HZB := Lib.hid hb.size
      obtain ⟨xi, hxi⟩ : ∃ xi, (recT d x i).2 = xi := ⟨_, rfl⟩
      have HXI := Lib.hid hxi
      have HC2 := Lib.hid HJ2.out.chg
      have hs2 := HJ2.out.sec
      rw [hxi] at hs2
      have HXE : Hid (xi.e = x.e) := by show _ = _; rw [← hxi]; exact HOK.out.e
      have HS2 : Hid (SecAt w2 s b m { xi with e := putAll x.e (ml.take 0) }) := by
        have e0 : putAll x.e (ml.take 0) = xi.e := by rw [List.take_zero]; exact HXE.out.symm
        show SecAt w2 s b m { xi with e := putAll x.e (ml.take 0) }
        rw [e0]
        exact hs2
      clear hb hc hml hsl hown hxi hs2 HJ1 HJ2 HME
      go_wp2_with fail
      go_loopw [47] (fun jv wr => ∃ j : Nat, j ≤ ml.length ∧ jv = .int .i64 j ∧ Hid (SecAt wr s b m { xi with e := putAll x.e (ml.take j) }) ∧ Hid (Chg [s, m] w wr) ∧ Hid (Chg [s, m] w2 wr)) (fun jv _ => ml.length - (RowKit.intOf jv).toNat)
      case atStart => exact ⟨0, Nat.zero_le _, rfl, HS2, HC2, Chg.refl _ _⟩
      case round =>
        clear HS2 HC2
        obtain ⟨j, hj, rfl, HS, HC, HC3⟩ := hrel
        by_cases hlt : j < ml.length
        · have hsl3 : SlC wr va ml := by
            intro hne
            obtain ⟨bb, off, e, hlt3, hcell⟩ := HSL.out hne
            have h1 := HOW.out bb off e
            have h2 := HZ1.out
            have h3 := HLT.out
            refine ⟨bb, off, e, Nat.lt_of_lt_of_le hlt3 HC3.out.size, fun i2 z hz j2 u hu => ?_⟩
            exact (World.cell?_of_block (a := ⟨bb, off + i2 * 4 + j2, none⟩) (HC3.out.block bb hlt3 (by simp; omega))).trans (hcell i2 z hz j2 u hu)
          obtain ⟨eb, eo, rfl, heb, c0, c1, c2, c3⟩ := hsl3.get j hlt
          have HSN := Lib.hid (putAll_snoc x.e ml j hlt)
          have HPW := Lib.hid (HWF.out j hlt)
          have HLJ := Lib.hid hlt
          have hj0 : (0 : Int) ≤ (j : Int) := by omega
          have hjl : (j : Int) < (ml.length : Int) := by omega
          have hw1 : wrap64 ((j : Int) + 1) = j + 1 := by have := HLEN.out; exact IntWalk.wrap64_in _ (by omega)
          have HEL : Hid ((putAll x.e (ml.take j)).length < maxLen) := put_max x.e ml j HE.out HLEN.out
          obtain ⟨e2, he2⟩ : ∃ e2, e2 = putAll x.e (ml.take (j + 1)) := ⟨_, rfl⟩
          rw [← he2] at HSN
          have HE2 := Lib.hid he2
          generalize putAll x.e (ml.take j) = e1 at *
          generalize ml[j] = y at *
          obtain ⟨yk, ys, yn, yp⟩ := y
          simp only at c0 c1 c2 c3
          have hz := (Below.refl wr.heap.size wr).alloc (Nat.le_refl _) (.cells #[.string yk, .string ys, .int .i64 yn, .int .i64 yp] 170)
          have BC := Lib.hid (Box.new wr 170 #[.string yk, .string ys, .int .i64 yn, .int .i64 yp])
          have HS3 := Lib.hid (HS.out.keep hz)
          have HC4 : Hid (Chg [s, m] w (wr.alloc (.cells #[.string yk, .string ys, .int .i64 yn, .int .i64 yp] 170))) := HC.out.trans (Chg.of hz (Nat.le_refl _))
          have HC5 : Hid (Chg [s, m] w2 (wr.alloc (.cells #[.string yk, .string ys, .int .i64 yn, .int .i64 yp] 170))) := HC3.out.trans (Chg.of hz (Nat.le_refl _))
          clear hz heb hsl3 hlt he2 HS HC HC3
          obtain ⟨nf, hnf⟩ : ∃ nf, nf = wr.heap.size := ⟨_, rfl⟩
          rw [← hnf] at BC
          go_wp2_with fail
          rw [← hnf]
          clear hnf c0 c1 c2 c3
          generalize World.alloc wr _ = w3 at *
          have g3 : w3.cell? ⟨s, 3, none⟩ = some (.map (some m)) := HS3.out.box.cell 3 _ rfl
          have n0 := BC.out.cell 0 _ rfl
          have n1 := BC.out.cell 1 _ rfl
          have n2 := BC.out.cell 2 _ rfl
          have n3 := BC.out.cell 3 _ rfl
          refine wp_region_tree (fun W => W.cell? ⟨s, 3, none⟩ = some (.map (some m)) ∧ W.cell? ⟨nf, 0, none⟩ = some (.string yk) ∧ W.cell? ⟨nf, 1, none⟩ = some (.string ys) ∧ W.cell? ⟨nf, 2, none⟩ = some (.int .i64 yn) ∧ W.cell? ⟨nf, 3, none⟩ = some (.int .i64 yp)) 7 (.quiet 0 (.quiet 1 (.quiet 2 (.quiet 3 (.quiet 4 (.quiet 5 (.quiet 6 .nil))))))) (by kernel_rfl) (by kernel_rfl) ⟨g3, n0, n1, n2, n3⟩ ?_
          simp only [List.drop_succ_cons, List.drop_zero]
          iterate 7 (apply wpTr_step rfl; (intro W hS K hK; obtain ⟨r1, r2, r3, r4, r5⟩ := hS; go_simp; exact hK _ rfl))
          refine wpTr_nil ?_
          clear g3 n0 n1 n2 n3
          obtain ⟨D, hown, hDI⟩ := (HS3.out.map.keep (Below.refl _ w3).drew)
          have HDI := Lib.hid hDI
          clear hDI
          go_wp2_with (first
            | (at_mapUpdate; refine wpList_mapUpdate_own _ rfl _ _ _ 156 rfl 3 170 keyedY Tryz.underlying156 enR m e1.length D rfl hown HEL.out _ _ _ rfl rfl (keyOfY HPW.out) _ [] (enR_mk ⟨yk, ys, yn, yp⟩) ?_; intro w11 hown11 hgr11)
            | fail)
          have hC11 : Chg [m] w3.drew w11 := Chg.only hgr11
          have hmap : EnAt w11 m e2 := by
            have h1 := HDI.out.put (hown.tidy keyedY) HPW.out ⟨yk, ys, yn, yp⟩
            rw [HSN.out]
            refine ⟨_, ?_, h1⟩
            have := sowns_tight hown11
            rw [h1.size] at this
            exact this
          have hbox := HS3.out.box.of (w' := w11) (hC11.block s HS3.out.box.lt (by simpa using HS3.out.ne))
          have HSX : Hid (SecAt w11 s b m { xi with e := e2 }) := ⟨hbox, hmap, HS3.out.ne⟩
          have hCd : Chg [s, m] w3 w11 := (Chg.of (Below.refl _ w3).drew (Nat.le_refl _)).trans (hC11.mono (by simp))
          have HCA := Lib.hid (HC4.out.trans hCd)
          have HCB := Lib.hid (HC5.out.trans hCd)
          clear hown hown11 hgr11 hC11 hmap hbox hCd
          go_roundw
          case rel => exact ⟨j + 1, HLJ.out, by rw [hw1]; rfl, by rw [← HE2.out]; exact HSX, HCA, HCB⟩
          case measure => exact meas_lt HLJ.out hw1
        · obtain rfl : j = ml.length := by omega
          have HF : Hid (SecAt wr s b m (recX d x)) := by
            have h1 := HS.out
            rw [List.take_length] at h1
            show SecAt wr s b m (recX d x)
            unfold recX
            rw [← HIG.out, HXI.out, ← HML.out]
            exact h1
          have HRES := Lib.hid (HTO.out wr (recX d x) HC.out HF.out)
          clear HS HC HC3
          go_wp2
          go_end0
          exact ⟨rfl, HRES.out⟩
end
end Go.Proofs.YtphhnhldbajaoaaGreatDoor
