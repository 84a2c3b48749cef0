/-
  Texts put together: MoT, MoU.
-/
import Derived.Test.YteimpebfenpifaaGreatDoorMg24
import Derived.Lib.QuietBelow
import Derived.Deep.WholeRow
namespace Go.Proofs.YteimpebfenpifaaGreatDoor
open Go Go.RowKit Go.ChangeShapes Go.WideShapes Go.ChangeAt

theorem sortB_same {l m : List ByteArray} (h : l.Perm m) : sortB l = sortB m := by
  refine List.Perm.eq_of_pairwise (le := fun a b => a.data.toList ≤ b.data.toList) (fun a b _ _ h1 h2 => pb_ext (List.le_antisymm h1 h2)) (sortB_sorted l) (sortB_sorted m) (((sortB_perm l).trans h).trans (sortB_perm m).symm)
/-- The table of powers is laid. -/
def It (w : World) : Prop := Lib.TabIs Tryz.prog w "internal/strconv.uint64pow10" .u64 Lib.pow10Tab
theorem gPow : Tryz.prog.globalNamed "internal/strconv.uint64pow10" = some 3 := by kernel_rfl
theorem It.of {w w' : World} (h : It w) (e : w'.heap[3]? = w.heap[3]?) : It w' := by
  unfold It Lib.TabIs World.var? at *
  rw [gPow] at *
  simp only [Option.bind_some] at *
  rw [e]; exact h
theorem It.lt {w : World} (h : It w) : 3 < w.heap.size := by
  unfold It Lib.TabIs World.var? at h
  rw [gPow] at h
  simp only [Option.bind_some] at h
  rcases Nat.lt_or_ge 3 w.heap.size with q | q
  · exact q
  · rw [Array.getElem?_eq_none q] at h; cases h
theorem It.keep {w w' : World} (h : It w) (hb : Below w.heap.size w w') : It w' := h.of (hb.block _ h.lt)
theorem It.below {B : Nat} {w w' : World} (h : It w) (hb : Below B w w') (hB : 3 < B) : It w' := h.of (hb.block _ hB)
theorem itoa_any (n : Nat) (hn : n ≤ 4611686018427387904) (w : World) (hI : It w) : Calls Tryz.prog 78 #[.int .i64 n] w fun e w' => e = .returned (.string (digitsB n)) ∧ Below w.heap.size w w' := by
  refine (Tryz.strconv_Itoa (n : Int) (by omega) (by omega) w hI).mono ?_
  rintro e w' ⟨rfl, k, os, rfl⟩
  refine ⟨?_, below_regrown w (w.drewN k).drawn os⟩
  unfold digitsB Lib.itoa
  rw [if_neg (by omega), Int.toNat_natCast]
theorem Ks.onePut {w : World} {base g : Nat} {s : ByteArray} (hg : base ≤ g) (hb : Box w g 9 #[.string s]) : Ks w base (.slice (some ⟨g, 0, none⟩) 1 1) [s] :=
  ⟨rfl, .inr ⟨g, 1, #[.string s], rfl, hg, hb, Nat.le_refl _, by unfold maxLen; omega, rfl, rfl⟩⟩
theorem OpRes.names {x : TrD} {G : GD} {k : Nat} {w w1 : World} {g a b : Nat} {o : OpD} {q : AnsD × GD} {c n : Int} {d : ByteArray} {l : List ByteArray} {v : Value} (h : TrAt w x) (hr : Rel x.M G k) (hq : q = (⟨c, n, d, l⟩, G)) (hf : Fr w g a o w1) (hv : Ks w1 b v l) (hab : a < b) (s t y z : Value) :
    OpRes x k w q (.returned (ansV c n d v)) ((((w1.setCell ⟨a, 0, none⟩ s).setCell ⟨a, 1, none⟩ t).setCell ⟨a, 2, none⟩ y).setCell ⟨a, 3, none⟩ z) := by
  subst hq
  have hp := hf.put s t y z
  have hga := hf.ga
  have hgw := hf.gw
  refine ⟨v, x, rfl, ?_, rfl, h.keep hp, hr.up, Chg.of hp (Nat.le_refl _), fun j hj => .inl hj, fun j hj hm => ?_⟩
  · refine (Ks.chg hv (Chg.only (only_pt4 w1 a s t y z)) (fun i hi hm => ?_)).low (by omega)
    have := hv.own_block i hi
    rw [List.mem_singleton.1 hm] at this
    omega
  · have h1 := hv.own_block j hj
    have h2 := h.lt j hm
    omega

section
variable {x : TrD} {G : GD} {k : Nat} {w : World} (h : TrAt w x) (hr : Rel x.M G k) (hk : k ≤ 1000000)
include h hr hk
set_option maxRecDepth 100000 in
set_option maxHeartbeats 4000000 in
theorem stat_any (o : OpD) (ho : o.do_ = 9) (hp : o.path.size ≤ 100000) (hI : It w) : Calls Tryz.prog 53 #[.pointer (some ⟨x.b, 0, none⟩), opV o] w (OpRes x k w (doG G o)) := by
  obtain ⟨R, hR⟩ : ∃ R, R = doG G o := ⟨_, rfl⟩
  rw [← hR]
  have HR : Hid (R = if (leadG G o.path).2 ≠ 0 then (noA (leadG G o.path).2, G) else if dirG G (leadG G o.path).1 = true then (⟨0, ((kidsG G (splitD o.path).1).length : Nat), ⟨#[100, 105, 114]⟩, []⟩, G) else (⟨0, ((textG G (leadG G o.path).1).size : Nat), ⟨#[102, 105, 108, 101]⟩, [digitsB (linksG G (leadG G o.path).1)]⟩, G)) := by
    show R = _
    rw [hR]
    unfold doG
    simp only [ho]
    rfl
  have HT0 := Lib.hid h
  have HX := Lib.hid hr
  have HK := Lib.hid hk
  have HP := Lib.hid hp
  have HIT := Lib.hid hI
  clear hI
  have HBL : Hid (∀ j ∈ x.blocks, j < w.heap.size) := h.lt
  have HF1 : Hid (Fr w w.heap.size (w.heap.size + 1) o ((w.alloc (.cells #[.int .i64 o.do_, .string o.path, .string o.dst, .int .i64 o.off, .int .i64 o.len, .string o.data] 36 (0, 0))).alloc (.cells #[.int .i64 0, .int .i64 0, .string ⟨#[]⟩, .slice none 0 0] 33 (0, 0)))) := Fr.new w o
  have HT1 := Lib.hid (h.keep HF1.out.toW)
  have c1 : ((w.alloc (.cells #[.int .i64 o.do_, .string o.path, .string o.dst, .int .i64 o.off, .int .i64 o.len, .string o.data] 36 (0, 0))).alloc (.cells #[.int .i64 0, .int .i64 0, .string ⟨#[]⟩, .slice none 0 0] 33 (0, 0))).cell? ⟨w.heap.size, 1, none⟩ = some (.string o.path) := HF1.out.bo.cell 1 _ rfl
  obtain ⟨g, hg⟩ : ∃ g, g = w.heap.size := ⟨_, rfl⟩
  obtain ⟨a, ha⟩ : ∃ a, a = w.heap.size + 1 := ⟨_, rfl⟩
  rw [← ha, ← hg] at HF1
  have HGW := Lib.hid hg
  clear h hr hk hp ho hR
  have HFA := Lib.hid (fun W (q : TrAt W x) => lead_any q HX.out HK.out o.path HP.out)
  unfold opV
  go_enter Tryz.func53, Tryz.ntmps53
  go_wp2_with fail
  rw [← ha, ← hg]
  clear ha hg c1
  generalize World.alloc (World.alloc w _) _ = w1 at *
  refine (HFA.out _ HT1.out).mono ?_
  rintro e1 w2 ⟨rfl, hb⟩
  have HF2 := Lib.hid (HF1.out.keep hb)
  have HT2 := Lib.hid (HT1.out.keep hb)
  clear hb HF1 HT1 HFA
  rcases lead_cases HX.out o.path with ⟨n, e, hfe, hne, hK⟩ | ⟨n, t, hfe, hsp, hat, hft, hz0, hz1, hdn⟩
  · rw [hfe]
    have HQ : Hid (R = (noA e, G)) := by
      show R = _
      rw [HR.out, hK, if_pos hne]
    have hz : (e != 0) = true := by simpa using hne
    clear hfe hne hK HR
    go_wp2_with fail
    refine (refused_any e _).mono ?_
    rintro e1 w3 ⟨rfl, hb⟩
    have HF3 := Lib.hid (HF2.out.keep hb)
    have HT3 := Lib.hid (HT2.out.keep hb)
    clear hb
    obtain ⟨⟨s1, s2⟩, s3, s4, s5⟩ := HF3.out.ba.st4
    unfold ansV nilS
    go_wp2
    refine bodyPost_ret (results_cell_row rfl _ _ a 33 _ (0, 0) _ rfl (HF3.out.ba.pt4 _ _ _ _) Tryz.underlying33 rfl sizeAns) rfl ?_
    exact OpRes.refuse HT0.out HX.out HQ.out HF3.out _ _ _ _
  · rw [hfe]
    have HQ := Lib.hid (HR.out.trans (if_neg (fun e => e hz0)))
    rw [hz1, hdn] at HQ
    obtain ⟨rn, hrn, hrt⟩ := TrD.row hft
    have hnb := HX.out.numB hft
    have hkk := HK.out
    have t0 : w2.cell? ⟨x.b, 0, none⟩ = some (.map (some x.m)) := HT2.out.box.cell 0 _ rfl
    have d0 : w2.cell? ⟨rn.p, 0, none⟩ = some (.bool t.dir) := by rw [← hrt]; exact (HT2.out.at_ hrn).1.cell 0 _ rfl
    have lk1 := HT2.out.look hrn hnb.1 (by omega)
    cases hd : t.dir with
    | true =>
      rw [hd] at d0
      have HQ2 : Hid (R = (⟨0, (rn.t.ents.length : Nat), ⟨#[100, 105, 114]⟩, []⟩, G)) := by
        show R = _
        rw [HQ.out, if_pos hd]
        have := (kids_ents HX.out hat hft).length_eq
        rw [List.length_map, ← hrt] at this
        rw [this]
      obtain ⟨mn, hmn, hmm⟩ := (HT2.out.at_ hrn).dirBox (by rw [hrt]; exact hd)
      have hlen : ∀ ty, (Builtin.len_ #[65] ty #[.map (some mn)]).run Tryz.prog w2 = .ok (.int .i64 rn.t.ents.length) w2 := fun ty => MapAt.len hmm ty
      have d1 : w2.cell? ⟨rn.p, 1, none⟩ = some (.map (some mn)) := by rw [← hmn]; exact (HT2.out.at_ hrn).1.cell 1 _ rfl
      clear hfe hrn hrt hnb hkk hat hft hsp hz0 hz1 hdn HQ HR hmn hmm hd
      obtain ⟨⟨s1, s2⟩, s3, s4, s5⟩ := HF2.out.ba.st4
      go_wp2
      refine bodyPost_ret (results_cell_row rfl _ _ a 33 _ (0, 0) _ rfl (HF2.out.ba.pt4 _ _ _ _) Tryz.underlying33 rfl sizeAns) rfl ?_
      exact OpRes.tell HT0.out HX.out HQ2.out HF2.out _ _ _ _
    | false =>
      rw [hd] at d0
      have hfl := HX.out.file n t hft hd
      have HQ2 : Hid (R = (⟨0, (rn.t.text.size : Nat), ⟨#[102, 105, 108, 101]⟩, [digitsB (linksG G n)]⟩, G)) := by
        show R = _
        rw [HQ.out, if_neg (by rw [hd]; simp)]
        have htx : textG G n = rn.t.text := by
          unfold textG
          rw [HX.out.th n t hft, hrt]
        rw [htx]
      have hll : rn.t.links = (linksG G n : Int) := by rw [hrt]; exact hfl.2
      have hlb : linksG G n ≤ 1000000 := by
        have h1 : linksG G n ≤ G.E.length := List.countP_le_length
        have h2 := HX.out.bE
        omega
      obtain ⟨L, hL⟩ : ∃ L, L = linksG G n := ⟨_, rfl⟩
      rw [← hL] at HQ2 hll hlb
      have HIA := Lib.hid (fun W (q : It W) => itoa_any L (by omega) W q)
      have d2 : w2.drew.cell? ⟨rn.p, 2, none⟩ = some (.string rn.t.text) := (HT2.out.at_ hrn).1.cell 2 _ rfl
      have d3 : w2.drew.cell? ⟨rn.p, 3, none⟩ = some (.int .i64 L) := by rw [← hll]; exact (HT2.out.at_ hrn).1.cell 3 _ rfl
      have HRL := Lib.hid (HT2.out.at_ hrn).1.lt
      clear hfe hrn hrt hnb hkk hat hft hsp hz0 hz1 hdn HQ HR hd hfl hll hlb hL
      generalize rn.t.text = T at *
      go_wp2_with fail
      refine wp_region_tree (fun W => W.cell? ⟨rn.p, 2, none⟩ = some (.string T) ∧ W.cell? ⟨rn.p, 3, none⟩ = some (.int .i64 L)) 11 (.quiet 0 (.quiet 1 (.quiet 2 (.quiet 3 (.quiet 4 (.quiet 5 (.quiet 6 (.quiet 7 (.quiet 8 (.make 9 (.make 10 .nil))))))))))) (by kernel_rfl) (by kernel_rfl) ⟨d2, d3⟩ ?_
      simp only [List.drop_succ_cons, List.drop_zero]
      iterate 9 (apply wpTr_step rfl; (intro W hS K hK; obtain ⟨u0, u1⟩ := hS; go_simp; exact hK _ rfl))
      refine wpTr_make rfl (fun K' hK => ?_)
      go_simp
      refine (HIA.out w2.drew (HIT.out.of (w' := w2.drew) (HF2.out.toW.block _ HIT.out.lt))).mono ?_
      rintro e1 w3 ⟨rfl, hb⟩
      have hb3 : Below w2.heap.size w2 w3 := (Below.refl _ w2).drew.trans hb
      have HF3 := Lib.hid (HF2.out.keep hb3)
      have d23 : w3.cell? ⟨rn.p, 2, none⟩ = some (.string T) := (hb3.cell (p := ⟨rn.p, 2, none⟩) HRL.out).trans d2
      have d33 : w3.cell? ⟨rn.p, 3, none⟩ = some (.int .i64 L) := (hb3.cell (p := ⟨rn.p, 3, none⟩) HRL.out).trans d3
      have HRL3 : Hid (rn.p < w3.heap.size) := Nat.lt_of_lt_of_le HRL.out hb3.size
      refine hK _ _ _ (fun _ h => h) ⟨d23, d33⟩ ?_
      clear hK K' hb hb3 d2 d3 t0 d0 lk1 HF2
      refine wpTr_make rfl (fun K' hK => ?_)
      go_simp
      have hal := (Below.refl w3.heap.size w3).alloc (Nat.le_refl _) (.cells #[.string (digitsB L)] 9 (0, 0))
      have HF4 := Lib.hid (HF3.out.keep hal)
      have hbx := Box.new w3 9 #[.string (digitsB L)]
      have HKS := Lib.hid (Ks.onePut (Nat.le_refl w3.heap.size) hbx)
      have HAB : Hid (a < w3.heap.size) := HF3.out.ba.lt
      refine hK _ _ _ (fun _ h => h) ⟨(hal.cell (p := ⟨rn.p, 2, none⟩) HRL3.out).trans d23, (hal.cell (p := ⟨rn.p, 3, none⟩) HRL3.out).trans d33⟩ ?_
      clear hK K' hal hbx d23 d33
      refine wpTr_nil ?_
      generalize hw4 : World.alloc w3 _ = w4 at *
      obtain ⟨⟨s1, s2⟩, s3, s4, s5⟩ := HF4.out.ba.st4
      clear hw4
      go_wp2
      refine bodyPost_ret (results_cell_row rfl _ _ a 33 _ (0, 0) _ rfl (HF4.out.ba.pt4 _ _ _ _) Tryz.underlying33 rfl sizeAns) rfl ?_
      exact OpRes.names HT0.out HX.out HQ2.out HF4.out HKS.out HAB.out _ _ _ _
set_option maxRecDepth 100000 in
set_option maxHeartbeats 4000000 in
theorem list_any (o : OpD) (ho : o.do_ = 10) (hp : o.path.size ≤ 100000) : Calls Tryz.prog 54 #[.pointer (some ⟨x.b, 0, none⟩), opV o] w (OpRes x k w (doG G o)) := by
  obtain ⟨R, hR⟩ : ∃ R, R = doG G o := ⟨_, rfl⟩
  rw [← hR]
  have HR : Hid (R = if (leadG G o.path).2 ≠ 0 then (noA (leadG G o.path).2, G) else if dirG G (leadG G o.path).1 = false then (noA 11, G) else (⟨0, 0, noB, sortB (kidsG G (splitD o.path).1)⟩, G)) := by
    show R = _
    rw [hR]
    unfold doG
    simp only [ho]
    rfl
  have HT0 := Lib.hid h
  have HX := Lib.hid hr
  have HK := Lib.hid hk
  have HP := Lib.hid hp
  have HBL : Hid (∀ j ∈ x.blocks, j < w.heap.size) := h.lt
  have HF1 : Hid (Fr w w.heap.size (w.heap.size + 1) o ((w.alloc (.cells #[.int .i64 o.do_, .string o.path, .string o.dst, .int .i64 o.off, .int .i64 o.len, .string o.data] 36 (0, 0))).alloc (.cells #[.int .i64 0, .int .i64 0, .string ⟨#[]⟩, .slice none 0 0] 33 (0, 0)))) := Fr.new w o
  have HT1 := Lib.hid (h.keep HF1.out.toW)
  have c1 : ((w.alloc (.cells #[.int .i64 o.do_, .string o.path, .string o.dst, .int .i64 o.off, .int .i64 o.len, .string o.data] 36 (0, 0))).alloc (.cells #[.int .i64 0, .int .i64 0, .string ⟨#[]⟩, .slice none 0 0] 33 (0, 0))).cell? ⟨w.heap.size, 1, none⟩ = some (.string o.path) := HF1.out.bo.cell 1 _ rfl
  obtain ⟨g, hg⟩ : ∃ g, g = w.heap.size := ⟨_, rfl⟩
  obtain ⟨a, ha⟩ : ∃ a, a = w.heap.size + 1 := ⟨_, rfl⟩
  rw [← ha, ← hg] at HF1
  have HGW := Lib.hid hg
  clear h hr hk hp ho hR
  have HFA := Lib.hid (fun W (q : TrAt W x) => directory_any q HX.out HK.out o.path HP.out)
  unfold opV
  go_enter Tryz.func54, Tryz.ntmps54
  go_wp2_with fail
  rw [← ha, ← hg]
  clear ha hg c1
  generalize World.alloc (World.alloc w _) _ = w1 at *
  refine (HFA.out _ HT1.out).mono ?_
  rintro e1 w2 ⟨rfl, hb⟩
  have HF2 := Lib.hid (HF1.out.keep hb)
  have HT2 := Lib.hid (HT1.out.keep hb)
  clear hb HF1 HT1 HFA
  rcases dir_cases HX.out o.path with ⟨n, e, hfe, hne, hK⟩ | ⟨n, t, hfe, hsp, hat, hft, hfd, hz0, hz1, hdn⟩
  · rw [hfe]
    have HQ : Hid (R = (noA e, G)) := by
      show R = _
      rw [HR.out]
      rcases hK with ⟨h1, h2⟩ | ⟨h1, h2, h3⟩
      · rw [if_pos h1, h2]
      · rw [if_neg (fun e => e h1), if_pos h2, h3]
    have hz : (e != 0) = true := by simpa using hne
    clear hfe hne hK HR
    go_wp2_with fail
    refine (refused_any e _).mono ?_
    rintro e1 w3 ⟨rfl, hb⟩
    have HF3 := Lib.hid (HF2.out.keep hb)
    have HT3 := Lib.hid (HT2.out.keep hb)
    clear hb
    obtain ⟨⟨s1, s2⟩, s3, s4, s5⟩ := HF3.out.ba.st4
    unfold ansV nilS
    go_wp2
    refine bodyPost_ret (results_cell_row rfl _ _ a 33 _ (0, 0) _ rfl (HF3.out.ba.pt4 _ _ _ _) Tryz.underlying33 rfl sizeAns) rfl ?_
    exact OpRes.refuse HT0.out HX.out HQ.out HF3.out _ _ _ _
  · rw [hfe]
    obtain ⟨rn, hrn, hrt⟩ := TrD.row hft
    have HQ : Hid (R = (⟨0, 0, noB, sortB (rn.t.ents.map (·.1))⟩, G)) := by
      show R = _
      rw [HR.out, if_neg (fun e => e hz0), hz1, if_neg (by rw [hdn]; simp)]
      have hp := kids_ents HX.out hat hft
      rw [← hrt] at hp
      rw [sortB_same hp]
    have hnb := HX.out.numB hft
    have hkk := HK.out
    have hel := (HX.out.nds n t hft).2
    rw [← hrt] at hel
    obtain ⟨mn, hmn, hmm⟩ := (HT2.out.at_ hrn).dirBox (by rw [hrt]; exact hfd)
    have t0 : w2.cell? ⟨x.b, 0, none⟩ = some (.map (some x.m)) := HT2.out.box.cell 0 _ rfl
    have d1 : w2.cell? ⟨rn.p, 1, none⟩ = some (.map (some mn)) := by rw [← hmn]; exact (HT2.out.at_ hrn).1.cell 1 _ rfl
    have lk1 := HT2.out.look hrn hnb.1 (by omega)
    have HNS := Lib.hid (names_sorted w2 mn rn.t.ents hmm (by omega))
    clear hfe hrn hrt hnb hkk hat hft hfd hsp hz0 hz1 hdn HR hmn hmm hel
    generalize sortB (rn.t.ents.map (·.1)) = NS at *
    go_wp2_with fail
    refine HNS.out.mono ?_
    rintro e1 w3 ⟨f, rfl, hb, hso⟩
    have HF3 := Lib.hid (HF2.out.keep hb)
    have HT3 := Lib.hid (HT2.out.keep hb)
    have HSO := Lib.hid hso
    clear hb hso HF2 HT2 HNS t0 d1 lk1
    go_wp2_with fail
    refine HSO.out.mono ?_
    rintro e1 w4 ⟨v, rfl, hks, hb⟩
    have HF4 := Lib.hid (HF3.out.keep hb)
    have HT4 := Lib.hid (HT3.out.keep hb)
    have HKS := Lib.hid hks
    have HAB : Hid (a < w3.heap.size) := HF3.out.ba.lt
    obtain ⟨va, vc, rfl, _, _⟩ := hks.shape
    clear hb hks HF3 HT3 HSO
    obtain ⟨⟨s1, s2⟩, s3, s4, s5⟩ := HF4.out.ba.st4
    go_wp2
    refine bodyPost_ret (results_cell_row rfl _ _ a 33 _ (0, 0) _ rfl (HF4.out.ba.pt4 _ _ _ _) Tryz.underlying33 rfl sizeAns) rfl ?_
    exact OpRes.names HT0.out HX.out HQ.out HF4.out HKS.out HAB.out _ _ _ _
end
end Go.Proofs.YteimpebfenpifaaGreatDoor

namespace Go.Proofs.YteimpebfenpifaaGreatDoor
open Go Go.RowKit Go.ChangeShapes Go.WideShapes Go.ChangeAt

set_option maxRecDepth 100000 in
theorem made_any {x : TrD} {w : World} (h : TrAt w x) : Calls Tryz.prog 27 #[.pointer (some ⟨x.b, 0, none⟩)] w fun e w' => e = .returned (.bool true) ∧ w' = w := by
  have t0 : w.cell? ⟨x.b, 0, none⟩ = some (.map (some x.m)) := h.box.cell 0 _ rfl
  have hq : (binOp BinOp.neq 56 (.map (some x.m)) (.map none)).run Tryz.prog w = .ok (.bool true) w := by kernel_rfl
  have hq : (binOp BinOp.neq 56 (.map (some x.m)) (.map none)).run Tryz.prog w = .ok (.bool true) w := by kernel_rfl
  clear h
  go_enter Tryz.func27, Tryz.ntmps27
  go_wp2
  go_ret
  exact ⟨rfl, rfl⟩
set_option maxRecDepth 100000 in
theorem made_nil (w : World) : Calls Tryz.prog 27 #[.pointer none] w fun e w' => e = .returned (.bool false) ∧ w' = w := by
  go_enter Tryz.func27, Tryz.ntmps27
  go_wp2
  go_ret
  exact ⟨rfl, rfl⟩
/-- The table of what may be asked. -/
def doingsA : Array Value := #[.func (.func 44) #[] #[], .func (.func 45) #[] #[], .func (.func 46) #[] #[], .func (.func 47) #[] #[], .func (.func 48) #[] #[], .func (.func 49) #[] #[], .func (.func 50) #[] #[], .func (.func 51) #[] #[], .func (.func 52) #[] #[], .func (.func 53) #[] #[], .func (.func 54) #[] #[]]
def nilsA : Array Value := #[.nilFunc, .nilFunc, .nilFunc, .nilFunc, .nilFunc, .nilFunc, .nilFunc, .nilFunc, .nilFunc, .nilFunc, .nilFunc]
theorem sizeDo : (Tryz.prog.info? 71).map (·.size) = some 11 := by kernel_rfl
theorem table_store {w : World} {ops : Array Oper} {rest : List Oper} {o : Oper} {a : Act} {Q : Exit → Act → World → Prop} (hg : o.guard = none) (x y : Operand) (ho : o.op = Op.store 71 x y)
    (hx : a.eval x = .pointer (some ⟨w.heap.size, 0, none⟩)) (hy : a.eval y = .agg #[.func (.func 44) #[] #[], .func (.func 45) #[] #[], .func (.func 46) #[] #[], .func (.func 47) #[] #[], .func (.func 48) #[] #[], .func (.func 49) #[] #[], .func (.func 50) #[] #[], .func (.func 51) #[] #[], .func (.func 52) #[] #[], .func (.func 53) #[] #[], .func (.func 54) #[] #[]]) (h : wpList Tryz.prog ops Q rest (a.put o.dst undef) (w.alloc (.cells #[.func (.func 44) #[] #[], .func (.func 45) #[] #[], .func (.func 46) #[] #[], .func (.func 47) #[] #[], .func (.func 48) #[] #[], .func (.func 49) #[] #[], .func (.func 50) #[] #[], .func (.func 51) #[] #[], .func (.func 52) #[] #[], .func (.func 53) #[] #[], .func (.func 54) #[] #[]] 71))) : wpList Tryz.prog ops Q (o :: rest) a (w.alloc (.cells #[.nilFunc, .nilFunc, .nilFunc, .nilFunc, .nilFunc, .nilFunc, .nilFunc, .nilFunc, .nilFunc, .nilFunc, .nilFunc] 71)) := by
  refine wpList_plain hg fun _ hK => wp_store_row 71 x y ho w.heap.size doingsA hx hy 71 nilsA (heap_alloc_last w _) sizeDo rfl (by unfold doingsA; simp [Value.oneCell']) (hK _ _ ?_)
  rw [show (w.alloc (.cells #[.nilFunc, .nilFunc, .nilFunc, .nilFunc, .nilFunc, .nilFunc, .nilFunc, .nilFunc, .nilFunc, .nilFunc, .nilFunc] 71)) = w.alloc (.cells nilsA 71) from rfl, World.setRow_alloc_new]
  exact h
set_option maxRecDepth 100000 in
theorem doings_any (w : World) : Calls Tryz.prog 30 #[] w fun e w' => e = .returned (.agg doingsA) ∧ Below w.heap.size w w' := by
  have hb := Box.new w 71 doingsA
  have HB := Lib.hid hb
  clear hb
  unfold doingsA at *
  go_enter Tryz.func30, Tryz.ntmps30
  go_wp2_with (first | (refine table_store rfl _ _ rfl rfl rfl ?_) | fail)
  refine bodyPost_ret (results_cell_row rfl _ _ w.heap.size 71 _ (0, 0) _ rfl HB.out Tryz.underlying71 rfl sizeDo) rfl ?_
  exact ⟨rfl, (Below.refl _ _).alloc (Nat.le_refl _) _⟩
end Go.Proofs.YteimpebfenpifaaGreatDoor
