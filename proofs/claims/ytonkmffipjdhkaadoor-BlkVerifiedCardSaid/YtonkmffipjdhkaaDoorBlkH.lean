/-
  Blocks: Mend, of devices of the call's own.
-/
import Derived.Test.YtonkmffipjdhkaaDoorMg22
namespace Go.Proofs.YtonkmffipjdhkaaDoor
open Go Go.RowKit Go.Shelf

attribute [local go_sem] Oper.semAt_some

/-- Where nothing is read Mend tells so. -/
theorem bmend_no (x a : Option Addr) (cap : Nat) (p : PtrD) (t : Told) (w : World) (hl : p.locs.length ≤ 1000) (hs : SlP w a p.locs) (hK : Kt w) (hT : ∀ k, (t.T k).size ≤ 140737488355328) (hR : Rd x p t w) (hne : (readR t p).2.2 ≠ 0) :
    Calls Tryd.prog 15 #[.pointer x, ptrV a cap p] w fun e w' => e = .returned (.tuple #[.int .i64 0, .int .i64 (readR t p).2.2]) ∧ Below w.heap.size w w' := by
  refine callsIn_wide (n := 6) |>.1 ?_
  obtain ⟨W1, hW1⟩ : ∃ W1, W1 = (w.alloc (.cells #[.pointer x] 27)).alloc (.cells #[.slice a p.locs.length cap, .int .i64 p.len, .int .i64 p.birth, .string p.sum] 25) := ⟨_, rfl⟩
  have hb1 : Below w.heap.size w W1 := by rw [hW1]; exact ((Below.refl _ w).alloc (Nat.le_refl _) _).alloc (by rw [size_alloc]; omega) _
  have hbd : Box W1 w.heap.size 27 #[.pointer x] := by rw [hW1]; exact (Box.new w _ _).alloc _
  have hbp : Box W1 (w.heap.size + 1) 25 #[.slice a p.locs.length cap, .int .i64 p.len, .int .i64 p.birth, .string p.sum] := by
    rw [hW1]
    have := Box.new (w.alloc (.cells #[.pointer x] 27)) 25 #[.slice a p.locs.length cap, .int .i64 p.len, .int .i64 p.birth, .string p.sum]
    rwa [size_alloc] at this
  have hd := hbd.cell 0 _ rfl
  have hp0 := hbp.cell 0 _ rfl
  have hp1 := hbp.cell 1 _ rfl
  have hp2 := hbp.cell 2 _ rfl
  have hp3 := hbp.cell 3 _ rfl
  have hrd := bread_any x a cap p t W1 hl (hs.keep hb1) (hK.below hb1 hK.pos) hT (hR.keep hb1)
  unfold ptrV at hrd ⊢
  have HRD := Lib.hid hrd
  have HB1 := Lib.hid hb1
  have hq : ((readR t p).2.2 != 0) = true := by simpa using hne
  generalize (readR t p).1 = tx at *
  generalize (readR t p).2.1 = nx at *
  generalize (readR t p).2.2 = ex at *
  clear hrd hb1 hbd hbp hs hK hT hR hne
  refine callsIn_of_wp_marks Tryd.func15 rfl trivial ?_ rfl
  simp only [Tryd.ntmps15, List.size_toArray, List.length_cons, List.length_nil, Nat.reduceAdd, Nat.reduceSub, Array.replicate_succ, Array.replicate_zero, List.push_toArray, List.append_toArray, List.nil_append, List.cons_append]
  rw [hW1] at hd hp0 hp1 hp2 hp3
  gi_wp2_with fail
  refine ⟨trivial, ?_⟩
  rw [← hW1]
  refine (callsIn_wide.2 HRD.out).mono ?_
  rintro e W2 ⟨rfl, hb⟩
  have HB2 := Lib.hid (HB1.out.trans (hb.mono HB1.out.size))
  clear hb hd hp0 hp1 hp2 hp3 hW1 HRD HB1
  gi_wp2
  refine ⟨_, results_tmp2 rfl _ _ _, ?_⟩
  exact ⟨rfl, HB2.out.alloc HB2.out.size _⟩

def objM (m c n : Nat) (s : ByteArray) (x a : Option Addr) (cap : Nat) (p : PtrD) (nm : Nat) (R : Loop) : List (Nat × Obj) :=
  [(c, .cells #[.string s] 9 (0, 0)), (n, .cells #[.int .i64 nm] 3 (0, 0)), (m, .cells #[.pointer x] 27 (0, 0)), (n + 1, .cells #[.pointer x] 27 (0, 0)),
    (n + 2, .cells #[.slice a p.locs.length cap, .int .i64 p.len, .int .i64 p.birth, .string p.sum] 25 (0, 0)), (n + 3, .deferred (some [])), (n + 4, .loop R)]

set_option maxRecDepth 100000 in
set_option maxHeartbeats 2000000 in
theorem bmend_ok {B : Nat} {P : List Nat → World → Prop} (hP : Fixed P) {b : Nat} {d : DevD} {w : World} (h : One B P b d w) (hB : 0 < B) (hK : Kt w) (a : Option Addr) (cap : Nat) (p : PtrD) (hl : p.locs.length ≤ 1000)
    (hrow : ∀ d' W, One B P b d' W → Below B w W → SlP W a p.locs) (hT : ∀ k, ((toldD d p).T k).size ≤ 140737488355328) (s : ByteArray) (nx : Nat) (hr : readR (toldD d p) p = (s, nx, 0)) (hT2 : ∀ k, k < p.locs.length → ((mdT p s d).T k).size ≤ 140737488355328) (hw : d.waits.length ≤ 90000) :
    Calls Tryd.prog 15 #[.pointer (some ⟨b, 0, none⟩), ptrV a cap p] w fun e w' => e = .returned (.tuple #[.int .i64 ((mdK p s d p.locs.length).2 : Nat), .int .i64 0]) ∧ One B P b (mdK p s d p.locs.length).1 w' ∧ Below B w w' := by
  refine callsIn_wide (n := 6) |>.1 ?_
  obtain ⟨W1, hW1⟩ : ∃ W1, W1 = (w.alloc (.cells #[.pointer (some ⟨b, 0, none⟩)] 27)).alloc (.cells #[.slice a p.locs.length cap, .int .i64 p.len, .int .i64 p.birth, .string p.sum] 25) := ⟨_, rfl⟩
  have hn1 : W1.heap.size = w.heap.size + 2 := by rw [hW1]; simp only [size_alloc]
  have hb1 : Below w.heap.size w W1 := by rw [hW1]; exact ((Below.refl _ w).alloc (Nat.le_refl _) _).alloc (by rw [size_alloc]; omega) _
  have hbd : Box W1 w.heap.size 27 #[.pointer (some ⟨b, 0, none⟩)] := by rw [hW1]; exact (Box.new w _ _).alloc _
  have hbp : Box W1 (w.heap.size + 1) 25 #[.slice a p.locs.length cap, .int .i64 p.len, .int .i64 p.birth, .string p.sum] := by
    rw [hW1]
    have := Box.new (w.alloc (.cells #[.pointer (some ⟨b, 0, none⟩)] 27)) 25 #[.slice a p.locs.length cap, .int .i64 p.len, .int .i64 p.birth, .string p.sum]
    rwa [size_alloc] at this
  have hd := hbd.cell 0 _ rfl
  have hp0 := hbp.cell 0 _ rfl
  have hp1 := hbp.cell 1 _ rfl
  have hp2 := hbp.cell 2 _ rfl
  have hp3 := hbp.cell 3 _ rfl
  have hrd := bread_any (some ⟨b, 0, none⟩) a cap p (toldD d p) W1 hl ((hrow d w h (Below.refl _ _)).keep hb1) (hK.below hb1 hK.pos) hT ((one_rd hP h p).keep hb1)
  rw [hr] at hrd
  unfold ptrV at hrd ⊢
  have HRD := Lib.hid hrd
  have HB1 := Lib.hid hb1
  have HN1 := Lib.hid hn1
  have HBD := Lib.hid hbd
  have HBP := Lib.hid hbp
  have HH := Lib.hid h
  have HK := Lib.hid hK
  have HROW := Lib.hid hrow
  have HT2 := Lib.hid hT2
  have HW := Lib.hid hw
  have HBP0 := Lib.hid hB
  have HZB : Hid (B ≤ w.heap.size) := h.1
  clear hrd hb1 hbd hbp hK hT hr hrow hT2 hw hn1 h hB
  refine callsIn_of_wp_marks Tryd.func15 rfl trivial ?_ rfl
  simp only [Tryd.ntmps15, List.size_toArray, List.length_cons, List.length_nil, Nat.reduceAdd, Nat.reduceSub, Array.replicate_succ, Array.replicate_zero, List.push_toArray, List.append_toArray, List.nil_append, List.cons_append]
  rw [hW1] at hd hp0 hp1 hp2 hp3
  gi_wp2_with fail
  refine ⟨trivial, ?_⟩
  rw [← hW1]
  refine (callsIn_wide.2 HRD.out).mono ?_
  rintro e W2 ⟨rfl, hb⟩
  have HB2 := Lib.hid (HB1.out.trans (hb.mono HB1.out.size))
  have HBD2 := Lib.hid (HBD.out.keep hb HBD.out.lt)
  have HBP2 := Lib.hid (HBP.out.keep hb HBP.out.lt)
  have HN2 : Hid (w.heap.size + 2 ≤ W2.heap.size) := by have h1 := hb.size; rw [HN1.out] at h1; exact h1
  clear hb hd hp0 hp1 hp2 hp3 hW1 HRD HB1 HBD HBP HN1
  obtain ⟨W3, hW3⟩ : ∃ W3, W3 = (W2.alloc (.cells #[.string s] 9)).alloc (.cells #[.int .i64 0] 3) := ⟨_, rfl⟩
  have hn3 : W3.heap.size = W2.heap.size + 2 := by rw [hW3]; simp only [size_alloc]
  have hb3 : Below W2.heap.size W2 W3 := by rw [hW3]; exact ((Below.refl _ _).alloc (Nat.le_refl _) _).alloc (by rw [size_alloc]; omega) _
  have hc3 : W3.heap[W2.heap.size]? = some (.cells #[.string s] 9 (0, 0)) := by rw [hW3]; exact (Box.new W2 9 _).alloc _
  have hm3 : W3.heap[W2.heap.size + 1]? = some (.cells #[.int .i64 0] 3 (0, 0)) := by
    rw [hW3]
    have := Box.new (W2.alloc (.cells #[.string s] 9)) 3 #[.int .i64 0]
    rwa [size_alloc] at this
  have hd : W3.cell? ⟨w.heap.size, 0, none⟩ = some (.pointer (some ⟨b, 0, none⟩)) := (HBD2.out.keep hb3 HBD2.out.lt).cell 0 _ rfl
  have hp0 : W3.cell? ⟨w.heap.size + 1, 0, none⟩ = some (.slice a p.locs.length cap) := (HBP2.out.keep hb3 HBP2.out.lt).cell 0 _ rfl
  have hp1 : W3.cell? ⟨w.heap.size + 1, 1, none⟩ = some (.int .i64 p.len) := (HBP2.out.keep hb3 HBP2.out.lt).cell 1 _ rfl
  have hp2 : W3.cell? ⟨w.heap.size + 1, 2, none⟩ = some (.int .i64 p.birth) := (HBP2.out.keep hb3 HBP2.out.lt).cell 2 _ rfl
  have hp3 : W3.cell? ⟨w.heap.size + 1, 3, none⟩ = some (.string p.sum) := (HBP2.out.keep hb3 HBP2.out.lt).cell 3 _ rfl
  have HB3 := Lib.hid (HB2.out.trans (hb3.mono HB2.out.size))
  have HBD3 := Lib.hid (HBD2.out.keep hb3 HBD2.out.lt)
  have HN3 := Lib.hid hn3
  have HC3 := Lib.hid hc3
  have HM3 := Lib.hid hm3
  clear hb3 hn3 hc3 hm3 HB2 HBD2 HBP2
  rw [hW3] at hd hp0 hp1 hp2 hp3
  gi_wp2_with fail
  refine ⟨trivial, ?_⟩
  rw [← hW3]
  have hca := copies_any 5 (by decide) (some ⟨b, 0, none⟩) a cap p W3
  unfold ptrV at hca
  refine hca.mono ?_
  rintro e W4 ⟨rfl, hn4, hb4, hdb, hpb⟩
  clear hca hd hp0 hp1 hp2 hp3 hW3
  rw [HN3.out] at hn4 hdb hpb ⊢
  have HB4 := Lib.hid (HB3.out.trans (hb4.mono HB3.out.size))
  have HBD4 := Lib.hid (HBD3.out.keep hb4 HBD3.out.lt)
  have HC4 := Lib.hid ((hb4.block _ (by rw [HN3.out]; omega)).trans HC3.out)
  have HM4 := Lib.hid ((hb4.block _ (by rw [HN3.out]; omega)).trans HM3.out)
  have HDB := Lib.hid hdb
  have HPB := Lib.hid hpb
  have HN4 := Lib.hid hn4
  clear hdb hpb hb4 HB3 HBD3 HC3 HM3 hn4 HN3
  gi_wp2_with fail
  have hn4 := HN4.out
  refine range_enter rfl (by decide) (gf := 54) (lb := #[.pointer (some ⟨W2.heap.size + 2 + 1, 0, none⟩), .pointer (some ⟨W2.heap.size + 2, 0, none⟩)]) rfl trivial (enters_of Tryd.func54 (by kernel_rfl) rfl) ?_
  intro fn hfn RC hRC
  simp only [Nat.reduceSub, List.append_toArray, List.cons_append, List.nil_append]
  obtain ⟨c, hc⟩ : ∃ c, c = W2.heap.size := ⟨_, rfl⟩
  rw [← hc] at HN4 HDB HPB hn4 HC4 HM4 HN2 ⊢
  obtain ⟨g, hg⟩ : ∃ g, g = w.heap.size := ⟨_, rfl⟩
  have HG := Lib.hid hg
  rw [← hg] at HBD4 HN2 HZB ⊢
  rw [hn4]
  obtain ⟨X0, hX0⟩ : ∃ X0, X0 = (W4.alloc (.deferred (some []))).alloc (.loop (RC .ready none)) := ⟨_, rfl⟩
  rw [← hX0]
  have hzd : (W4.alloc (.deferred (some []))).heap.size = c + 5 := by rw [size_alloc, hn4]
  have hz0 : X0.heap.size = c + 6 := by rw [hX0, size_alloc, hzd]
  have hl0 : X0.heap[c + 5]? = some (.loop (RC .ready none)) := by
    have := World.alloc_heap_new (W4.alloc (.deferred (some []))) (.loop (RC .ready none))
    rw [hzd] at this
    rw [hX0]; exact this
  have hd0 : X0.heap[c + 4]? = some (.deferred (some [])) := by
    rw [hX0, Below.heap_alloc _ _ _ (by rw [hzd]; omega)]
    have := World.alloc_heap_new W4 (.deferred (some []))
    rw [hn4] at this
    exact this
  have ho0 : ∀ k, k < c + 4 → X0.heap[k]? = W4.heap[k]? := fun k hk => by
    rw [hX0, Below.heap_alloc _ _ _ (by rw [hzd]; omega), Below.heap_alloc _ _ _ (by rw [hn4]; omega)]
  have hbx0 : Below w.heap.size w X0 := by rw [hX0]; exact (HB4.out.alloc (by rw [hn4]; have := HN2.out; omega) _).alloc (by rw [hzd]; have := HN2.out; omega) _
  have hgc := HN2.out
  have hJ0 : One B (Both P (ObjP (objM g c (c + 1) s (some ⟨b, 0, none⟩) a cap p 0 (RC .ready none)))) b d X0 := by
    refine HH.out.add hP hbx0 ⟨_, ⟨rfl, ?_⟩, ?_⟩
    · intro x hx
      simp only [objM, List.mem_cons, List.not_mem_nil, or_false] at hx
      rcases hx with rfl | rfl | rfl | rfl | rfl | rfl | rfl
      · exact (ho0 _ (by simp only; omega)).trans HC4.out
      · exact (ho0 _ (by simp only; omega)).trans HM4.out
      · exact (ho0 _ (by simp only; omega)).trans HBD4.out
      · exact (ho0 _ (by simp only; omega)).trans HDB.out
      · exact (ho0 _ (by simp only; omega)).trans HPB.out
      · exact hd0
      · exact hl0
    · intro k hk
      simp only [objM, List.map_cons, List.map_nil, List.mem_cons, List.not_mem_nil, or_false] at hk
      omega
  have HJ0 : Hid (One B (Both P (ObjP (objM g c (c + 1) s (some ⟨b, 0, none⟩) a cap p 0 (RC .ready none)))) b d X0 ∧ Below B w X0) := ⟨hJ0, hbx0.mono (by have := HZB.out; omega)⟩
  have HM := Lib.hid hc
  have HRC := Lib.hid hRC
  have HFN := Lib.hid hfn
  clear hc hg hX0 hzd hz0 hl0 hd0 ho0 hbx0 hn4 hfn hRC HB4 hJ0 HC4 HM4 HBD4 HDB HPB HN4 hgc
  have HF : Hid (∀ nm R, Fixed (Both P (ObjP (objM g c (c + 1) s (some ⟨b, 0, none⟩) a cap p nm R)))) := fun nm R => fixed_both hP (fixed_obj _)
  refine CallsIn.mono (copies_iter 5 (c + 5) (c + 3) (c + 2) (by decide) (some ⟨b, 0, none⟩) a cap p hl (mdT p s d) HT2.out (fun k W => One B (Both P (ObjP (objM g c (c + 1) s (some ⟨b, 0, none⟩) a cap p (mdK p s d k).2 (RC .ready none)))) b (mdK p s d k).1 W ∧ Below B w W) (fun _ _ => False) ?js ?jb ?rr ?yy X0 HJ0.out) ?post
  case js =>
    rintro k W ⟨h1, h2⟩
    exact ⟨HK.out.below h2 HBP0.out, HROW.out _ _ h1.drop h2, Box.cell (t := 27) (h1.obj (c + 2, .cells #[.pointer (some ⟨b, 0, none⟩)] 27 (0, 0)) (by simp [objM])) 0 _ rfl, h1.obj (c + 3, .cells #[.slice a p.locs.length cap, .int .i64 p.len, .int .i64 p.birth, .string p.sum] 25 (0, 0)) (by simp [objM])⟩
  case jb =>
    rintro k W W' ⟨h1, h2⟩ hb
    exact ⟨h1.keep (HF.out _ _) hb, h2.trans (hb.mono h1.1)⟩
  case rr =>
    rintro k W hk ⟨h1, h2⟩
    refine (one_readS (HF.out _ _) h1 p.locs[k]).mono ?_
    rintro e W' ⟨rfl, _, hb⟩
    refine ⟨?_, hb⟩
    show _ = Ending.returned (.tuple #[.string (tellD (mdK p s d k).1 (p.locs.getD k (0, 0))), .int .i64 (chkD (mdK p s d k).1 (p.locs.getD k (0, 0)) 0)])
    rw [getD_at hk]
  case yy =>
    rintro k W hlt ⟨hJ, hL⟩
    have hrc := hJ.obj (c + 5, .loop (RC .ready none)) (by simp [objM])
    refine yield_round (r := RC .ready none) hrc (by rw [HRC.out]; rfl) (by rw [HRC.out]; exact HFN.out) (by rw [HRC.out]; rfl) ?_
    rw [show (RC .ready none).assign = _ from by rw [HRC.out], show (RC .ready none).body = _ from by rw [HRC.out], show (RC .ready none).params = _ from by rw [HRC.out], show (RC .ready none).tmps = _ from by rw [HRC.out]]
    dsimp only [recL]
    unfold foundV
    have HGOOD := Lib.hid (@mdK_good p s d k)
    have HBAD := Lib.hid (@mdK_bad p s d k)
    obtain ⟨hle1, hle2⟩ := mdK_len p s d k
    have HLE : Hid ((mdK p s d k).1.waits.length ≤ 100000 ∧ (mdK p s d k).2 ≤ 1000) := ⟨by have := HW.out; omega, by omega⟩
    rw [mdT_good, show (mdT p s d).T k = tellD (mdK p s d k).1 (p.locs.getD k (0, 0)) from rfl, getD_at hlt]
    rw [getD_at hlt] at HGOOD HBAD
    generalize mdK p s d (k + 1) = dn at *
    generalize mdK p s d k = dk at *
    generalize p.locs[k] = lk at *
    obtain ⟨la, lb⟩ := lk
    generalize hgk : gdD dk.1 p (la, lb) = gk at *
    generalize tellD dk.1 (la, lb) = tk at *
    have HJ := Lib.hid hJ
    have HL := Lib.hid hL
    clear hJ hL hrc hle1 hle2 hgk
    have HLT := Lib.hid hlt
    clear hlt
    have BF := Lib.hid (Box.new W 77 #[.int .i64 k, .int .i64 la, .int .i64 lb, .string tk, .bool gk])
    have HXF := Lib.hid ((Below.refl W.heap.size W).alloc (Nat.le_refl _) (.cells #[.int .i64 k, .int .i64 la, .int .i64 lb, .string tk, .bool gk] 77))
    gi_wp2_with fail
    have HJa := Lib.hid (HJ.out.keep (HF.out _ _) HXF.out)
    have HLa := Lib.hid (HL.out.trans (HXF.out.mono HJ.out.1))
    generalize World.alloc W _ = Xa at *
    have hra := HJa.out.obj (c + 5, .loop (RC .ready none)) (by simp [objM])
    refine ⟨hra, ?_⟩
    have hnf : c + 5 < W.heap.size := (Array.getElem?_eq_some_iff.1 (HJ.out.obj (c + 5, .loop (RC .ready none)) (by simp [objM]))).1
    have ht1 := HJa.out.touch hP (w' := Xa.putObj (c + 5) (.loop (busyL (RC .ready none)))) (L' := objM g c (c + 1) s (some ⟨b, 0, none⟩) a cap p dk.2 (busyL (RC .ready none))) (c + 5) (by simp [objM]) (chg_putObj _ _ _) rfl (by
      intro x hx
      have e := fun j (hj : j ≠ c + 5) => World.putObj_heap_other (w := Xa) (r := c + 5) (o := .loop (busyL (RC .ready none))) hj
      have hgc := HN2.out
      simp only [objM, List.mem_cons, List.not_mem_nil, or_false] at hx
      rcases hx with rfl | rfl | rfl | rfl | rfl | rfl | rfl
      · exact (e _ (by simp only; omega)).trans (HJa.out.obj _ (by simp [objM]))
      · exact (e _ (by simp only; omega)).trans (HJa.out.obj _ (by simp [objM]))
      · exact (e _ (by simp only; omega)).trans (HJa.out.obj _ (by simp [objM]))
      · exact (e _ (by simp only; omega)).trans (HJa.out.obj _ (by simp [objM]))
      · exact (e _ (by simp only; omega)).trans (HJa.out.obj _ (by simp [objM]))
      · exact (e _ (by simp only; omega)).trans (HJa.out.obj _ (by simp [objM]))
      · exact World.putObj_heap_same (Array.getElem?_eq_some_iff.1 hra).1)
    have HJ1 := Lib.hid ht1
    have HL1 : Hid (Below B w (Xa.putObj (c + 5) (.loop (busyL (RC .ready none))))) := HLa.out.trans ((chg_putObj Xa (c + 5) (.loop (busyL (RC .ready none)))).below (Nat.le_trans HJ.out.1 HXF.out.size) (by intro k hk; rw [List.mem_singleton] at hk; have := HZB.out; have := HN2.out; omega))
    generalize hX1 : Xa.putObj (c + 5) (.loop (busyL (RC .ready none))) = X1 at *
    have BF1 : Hid (Box X1 W.heap.size 77 #[.int .i64 k, .int .i64 la, .int .i64 lb, .string tk, .bool gk]) := by
      show Box _ _ _ _
      rw [← hX1]
      exact (World.putObj_heap_other (by omega)).trans BF.out
    clear hX1 HJa HJ HXF BF hnf ht1 hra HLa HL
    generalize W.heap.size = nf at *
    have c4 : X1.cell? ⟨nf, 4, none⟩ = some (.bool gk) := BF1.out.cell 4 _ rfl
    have fin : ∀ (Y : World), Hid (One B (Both P (ObjP (objM g c (c + 1) s (some ⟨b, 0, none⟩) a cap p dn.2 (busyL (RC .ready none))))) b dn.1 Y) → Below B w Y → Y.heap[c + 5]? = some (.loop (busyL (RC .ready none))) ∧ One B (Both P (ObjP (objM g c (c + 1) s (some ⟨b, 0, none⟩) a cap p dn.2 (RC .ready none)))) b dn.1 (Y.putObj (c + 5) (.loop (readyL (RC .ready none)))) ∧ Below B w (Y.putObj (c + 5) (.loop (readyL (RC .ready none)))) := by
      intro Y hY hB
      have hry := hY.out.obj (c + 5, .loop (busyL (RC .ready none))) (by simp [objM])
      rw [show readyL (RC .ready none) = RC .ready none from by rw [HRC.out]; rfl]
      refine ⟨hry, hY.out.touch hP (c + 5) (by simp [objM]) (chg_putObj _ _ _) rfl (by
        intro x hx
        have e := fun j (hj : j ≠ c + 5) => World.putObj_heap_other (w := Y) (r := c + 5) (o := .loop (RC .ready none)) hj
        have hgc := HN2.out
        simp only [objM, List.mem_cons, List.not_mem_nil, or_false] at hx
        rcases hx with rfl | rfl | rfl | rfl | rfl | rfl | rfl
        · exact (e _ (by simp only; omega)).trans (hY.out.obj _ (by simp [objM]))
        · exact (e _ (by simp only; omega)).trans (hY.out.obj _ (by simp [objM]))
        · exact (e _ (by simp only; omega)).trans (hY.out.obj _ (by simp [objM]))
        · exact (e _ (by simp only; omega)).trans (hY.out.obj _ (by simp [objM]))
        · exact (e _ (by simp only; omega)).trans (hY.out.obj _ (by simp [objM]))
        · exact (e _ (by simp only; omega)).trans (hY.out.obj _ (by simp [objM]))
        · exact World.putObj_heap_same (Array.getElem?_eq_some_iff.1 hry).1), hB.trans ((chg_putObj _ _ _).below hY.out.1 (by intro k hk; rw [List.mem_singleton] at hk; have := HZB.out; have := HN2.out; omega))⟩
    have FIN := Lib.hid fin
    clear fin
    cases gk
    · have hdn := HBAD.out rfl
      have HDN := Lib.hid hdn
      have hcd : X1.cell? ⟨g, 0, none⟩ = some (.pointer (some ⟨b, 0, none⟩)) := Box.cell (t := 27) (HJ1.out.obj (g, .cells #[.pointer (some ⟨b, 0, none⟩)] 27 (0, 0)) (by simp [objM])) 0 _ rfl
      have hct : X1.cell? ⟨c, 0, none⟩ = some (.string s) := Box.cell (t := 9) (HJ1.out.obj (c, .cells #[.string s] 9 (0, 0)) (by simp [objM])) 0 _ rfl
      have c1 : X1.cell? ⟨nf, 1, none⟩ = some (.int .i64 la) := BF1.out.cell 1 _ rfl
      have c2 : X1.cell? ⟨nf, 2, none⟩ = some (.int .i64 lb) := BF1.out.cell 2 _ rfl
      clear hdn
      rw [← HG.out, ← HM.out]
      have hwr := one_write (HF.out _ _) HJ1.out (la, lb) s HLE.out.1
      unfold locV at hwr
      gi_wp2_with fail
      refine ⟨trivial, ?_⟩
      refine (CallsIn.inRound (c + 5) (callsIn_wide.2 hwr)).mono ?_
      rintro e X2 ⟨rfl, ho, hb⟩
      have HO := Lib.hid ho
      have HL2 := Lib.hid (HL1.out.trans hb)
      clear ho hb hcd hct c1 c2 c4 hwr HJ1 HL1 BF1
      by_cases hch : chkD dk.1 (la, lb) s.size = 0
      · rw [hch]
        have hcn : X2.cell? ⟨c + 1, 0, none⟩ = some (.int .i64 dk.2) := Box.cell (t := 3) (HO.out.obj (c + 1, .cells #[.int .i64 dk.2] 3 (0, 0)) (by simp [objM])) 0 _ rfl
        have hfn2 : X2.frozen? ⟨c + 1, 0, none⟩ = false := Box.free (t := 3) (HO.out.obj (c + 1, .cells #[.int .i64 dk.2] 3 (0, 0)) (by simp [objM])) 0
        have hle := HLE.out.2
        have hw1 : wrap64 ((dk.2 : Int) + 1) = (dk.2 : Int) + 1 := IntWalk.wrap64_in _ (by omega)
        have HDN2 : Hid (dn = (writeD dk.1 (la, lb) s, dk.2 + 1)) := by show _ = _; rw [HDN.out, if_pos hch]
        clear hch
        gi_wp2
        have ht := HO.out.touch hP (w' := X2.setCell ⟨c + 1, 0, none⟩ (.int .i64 ((dk.2 : Int) + 1))) (L' := objM g c (c + 1) s (some ⟨b, 0, none⟩) a cap p (dk.2 + 1) (busyL (RC .ready none))) (c + 1) (by simp [objM]) (chg_set _ _ _ _) rfl (by
          intro x hx
          have e := fun j (hj : j ≠ c + 1) => heap_setCell_other X2 ⟨c + 1, 0, none⟩ j (.int .i64 ((dk.2 : Int) + 1)) hj
          have hgc := HN2.out
          simp only [objM, List.mem_cons, List.not_mem_nil, or_false] at hx
          rcases hx with rfl | rfl | rfl | rfl | rfl | rfl | rfl
          · exact (e _ (by simp only; omega)).trans (HO.out.obj _ (by simp [objM]))
          · have hbx : Box X2 (c + 1) 3 #[.int .i64 dk.2] := HO.out.obj (c + 1, .cells #[.int .i64 dk.2] 3 (0, 0)) (by simp [objM])
            exact hbx.set 0 (.int .i64 ((dk.2 : Int) + 1))
          · exact (e _ (by simp only; omega)).trans (HO.out.obj _ (by simp [objM]))
          · exact (e _ (by simp only; omega)).trans (HO.out.obj _ (by simp [objM]))
          · exact (e _ (by simp only; omega)).trans (HO.out.obj _ (by simp [objM]))
          · exact (e _ (by simp only; omega)).trans (HO.out.obj _ (by simp [objM]))
          · exact (e _ (by simp only; omega)).trans (HO.out.obj _ (by simp [objM])))
        obtain ⟨f1, f2, f3⟩ := FIN.out _ (by show One _ _ _ _ _; rw [HDN2.out]; exact ht) (HL2.out.setCell (p := ⟨c + 1, 0, none⟩) (by show B ≤ c + 1; have := HZB.out; have := HN2.out; omega) _)
        exact ⟨f1, rfl, f2, f3⟩
      · have hq : (chkD dk.1 (la, lb) s.size == 0) = false := by simpa using hch
        have HDN2 : Hid (dn = (writeD dk.1 (la, lb) s, dk.2)) := by show _ = _; rw [HDN.out, if_neg hch]; rfl
        clear hch
        gi_wp2
        obtain ⟨f1, f2, f3⟩ := FIN.out X2 (by show One _ _ _ _ _; rw [HDN2.out]; exact HO.out) HL2.out
        exact ⟨f1, rfl, f2, f3⟩
    · have HDN := Lib.hid (HGOOD.out rfl)
      gi_wp2_with fail
      refine ⟨trivial, ?_⟩
      gi_wp2
      obtain ⟨f1, f2, f3⟩ := FIN.out X1 (by show One _ _ _ _ _; rw [HDN.out]; exact HJ1.out) HL1.out
      exact ⟨f1, rfl, f2, f3⟩
  case post =>
    rintro e W5 ⟨⟨v, rfl⟩, ⟨hJ, hL⟩ | ⟨k, hk, hX⟩⟩
    · have hrc := hJ.obj (c + 5, .loop (RC .ready none)) (by simp [objM])
      refine ⟨⟨_, rfl⟩, .ready, none, by simp, hrc, ?_⟩
      have hgc := HN2.out
      have ht := hJ.touch hP (w' := W5.putObj (c + 5) (.loop (RC .exhausted none))) (L' := objM g c (c + 1) s (some ⟨b, 0, none⟩) a cap p (mdK p s d p.locs.length).2 (RC .exhausted none)) (c + 5) (by simp [objM]) (chg_putObj _ _ _) rfl (by
        intro x hx
        have e := fun j (hj : j ≠ c + 5) => World.putObj_heap_other (w := W5) (r := c + 5) (o := .loop (RC .exhausted none)) hj
        simp only [objM, List.mem_cons, List.not_mem_nil, or_false] at hx
        rcases hx with rfl | rfl | rfl | rfl | rfl | rfl | rfl
        · exact (e _ (by simp only; omega)).trans (hJ.obj _ (by simp [objM]))
        · exact (e _ (by simp only; omega)).trans (hJ.obj _ (by simp [objM]))
        · exact (e _ (by simp only; omega)).trans (hJ.obj _ (by simp [objM]))
        · exact (e _ (by simp only; omega)).trans (hJ.obj _ (by simp [objM]))
        · exact (e _ (by simp only; omega)).trans (hJ.obj _ (by simp [objM]))
        · exact (e _ (by simp only; omega)).trans (hJ.obj _ (by simp [objM]))
        · exact World.putObj_heap_same (Array.getElem?_eq_some_iff.1 hrc).1)
      have hb6 : Below B w (W5.putObj (c + 5) (.loop (RC .exhausted none))) := hL.trans ((chg_putObj _ _ _).below hJ.1 (by intro k hk; rw [List.mem_singleton] at hk; have := HZB.out; omega))
      dsimp only [leaveL]
      generalize W5.putObj (c + 5) (.loop (RC .exhausted none)) = W6 at *
      have HT6 := Lib.hid ht
      have HB6 := Lib.hid hb6
      clear hJ hL hrc ht hb6
      obtain ⟨dm, hdm⟩ : ∃ dm, dm = mdK p s d p.locs.length := ⟨_, rfl⟩
      have HDM := Lib.hid hdm
      rw [← hdm] at HT6
      clear hdm
      have hcn : W6.cell? ⟨c + 1, 0, none⟩ = some (.int .i64 dm.2) := Box.cell (t := 3) (HT6.out.obj (c + 1, .cells #[.int .i64 dm.2] 3 (0, 0)) (by simp [objM])) 0 _ rfl
      have hd6 := HT6.out.obj (c + 4, .deferred (some [])) (by simp [objM])
      gi_wp2
      refine ⟨by simp, .inl ⟨_, _, rfl, run_takeDeferred hd6, ?_⟩⟩
      refine ⟨_, results_tmp2 rfl _ _ _, ?_⟩
      have ht7 := HT6.out.touch hP (w' := W6.putObj (c + 4) (.deferred none)) (L' := [(c, .cells #[.string s] 9 (0, 0)), (c + 1, .cells #[.int .i64 dm.2] 3 (0, 0)), (g, .cells #[.pointer (some ⟨b, 0, none⟩)] 27 (0, 0)), (c + 1 + 1, .cells #[.pointer (some ⟨b, 0, none⟩)] 27 (0, 0)),
        (c + 1 + 2, .cells #[.slice a p.locs.length cap, .int .i64 p.len, .int .i64 p.birth, .string p.sum] 25 (0, 0)), (c + 1 + 3, .deferred none), (c + 1 + 4, .loop (RC .exhausted none))]) (c + 4) (by simp [objM]) (chg_putObj _ _ _) rfl (by
        intro x hx
        have e := fun j (hj : j ≠ c + 4) => World.putObj_heap_other (w := W6) (r := c + 4) (o := .deferred none) hj
        simp only [List.mem_cons, List.not_mem_nil, or_false] at hx
        rcases hx with rfl | rfl | rfl | rfl | rfl | rfl | rfl
        · exact (e _ (by simp only; omega)).trans (HT6.out.obj _ (by simp [objM]))
        · exact (e _ (by simp only; omega)).trans (HT6.out.obj _ (by simp [objM]))
        · exact (e _ (by simp only; omega)).trans (HT6.out.obj _ (by simp [objM]))
        · exact (e _ (by simp only; omega)).trans (HT6.out.obj _ (by simp [objM]))
        · exact (e _ (by simp only; omega)).trans (HT6.out.obj _ (by simp [objM]))
        · exact World.putObj_heap_same (Array.getElem?_eq_some_iff.1 hd6).1
        · exact (e _ (by simp only; omega)).trans (HT6.out.obj _ (by simp [objM])))
      rw [← HDM.out]
      exact ⟨rfl, ht7.drop, HB6.out.trans ((chg_putObj _ _ _).below HT6.out.1 (by intro k hk; rw [List.mem_singleton] at hk; have := HZB.out; omega))⟩
    · exact hX.elim
end Go.Proofs.YtonkmffipjdhkaaDoor
