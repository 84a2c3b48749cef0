/-
  Texts put together: MoD, MoE.
-/
import Derived.Test.YteimpebfenpifaaGreatDoorMg15
import Derived.Test.YteimpebfenpifaaGreatDoorMg9
namespace Go.Proofs.YteimpebfenpifaaGreatDoor
open Go.RowKit Go.ChangeShapes Go.WideShapes Go.ChangeAt

theorem results_cellT {P : Program} {fn : Func} {p u : Tmp} {ty : TypeId} (h : fn.results = #[.cell p ty, .tmp u]) (tmps : Array Value) (w : World) (g : Nat) (t : TypeId) (cs : Array Value) (fr : Nat × Nat) (d : TypeDesc)
    (hp : tmps.getD p undef = .pointer (some ⟨g, 0, none⟩)) (hg : w.heap[g]? = some (.cells cs t fr))
    (hu : P.underlying ty = some d) (hd : (match d with | .struct _ | .array _ _ => true | _ => false) = true) (hi : (P.info? ty).map (·.size) = some cs.size) :
    (results fn tmps).run P w = .ok (.tuple #[.agg cs, tmps.getD u undef]) w := by
  rw [results_cell_tmp h, hp]
  simp [asAddr, run_loadVar_row w g t ty cs fr d hg hu hd hi]
theorem sizeSpot : (Tryz.prog.info? 106).map (·.size) = some 2 := by kernel_rfl
theorem sizeAns : (Tryz.prog.info? 33).map (·.size) = some 4 := by kernel_rfl

/-- Stores into a block of two cells, of four. -/
theorem Box.st2 {w : World} {g : Nat} {t : TypeId} {a b : Value} (h : Box w g t #[a, b]) : w.cell? ⟨g, 0, none⟩ = some a ∧ w.frozen? ⟨g, 0, none⟩ = false ∧
    ∀ u, (w.setCell ⟨g, 0, none⟩ u).cell? ⟨g, 1, none⟩ = some b ∧ (w.setCell ⟨g, 0, none⟩ u).frozen? ⟨g, 1, none⟩ = false :=
  ⟨h.cell 0 _ rfl, h.free 0, fun u => ⟨(h.set 0 u).cell 1 _ rfl, (h.set 0 u).free 1⟩⟩
theorem Box.pt2 {w : World} {g : Nat} {t : TypeId} {a b : Value} (h : Box w g t #[a, b]) (u v : Value) : Box ((w.setCell ⟨g, 0, none⟩ u).setCell ⟨g, 1, none⟩ v) g t #[u, v] := (h.set 0 u).set 1 v
theorem Box.st4 {w : World} {g : Nat} {t : TypeId} {a b c d : Value} (h : Box w g t #[a, b, c, d]) : (w.cell? ⟨g, 0, none⟩ = some a ∧ w.frozen? ⟨g, 0, none⟩ = false) ∧
    (∀ u, (w.setCell ⟨g, 0, none⟩ u).cell? ⟨g, 1, none⟩ = some b ∧ (w.setCell ⟨g, 0, none⟩ u).frozen? ⟨g, 1, none⟩ = false) ∧
    (∀ u v, ((w.setCell ⟨g, 0, none⟩ u).setCell ⟨g, 1, none⟩ v).cell? ⟨g, 2, none⟩ = some c ∧ ((w.setCell ⟨g, 0, none⟩ u).setCell ⟨g, 1, none⟩ v).frozen? ⟨g, 2, none⟩ = false) ∧
    (∀ u v x, (((w.setCell ⟨g, 0, none⟩ u).setCell ⟨g, 1, none⟩ v).setCell ⟨g, 2, none⟩ x).cell? ⟨g, 3, none⟩ = some d ∧ (((w.setCell ⟨g, 0, none⟩ u).setCell ⟨g, 1, none⟩ v).setCell ⟨g, 2, none⟩ x).frozen? ⟨g, 3, none⟩ = false) :=
  ⟨⟨h.cell 0 _ rfl, h.free 0⟩, fun u => ⟨(h.set 0 u).cell 1 _ rfl, (h.set 0 u).free 1⟩, fun u v => ⟨((h.set 0 u).set 1 v).cell 2 _ rfl, ((h.set 0 u).set 1 v).free 2⟩, fun u v x => ⟨(((h.set 0 u).set 1 v).set 2 x).cell 3 _ rfl, (((h.set 0 u).set 1 v).set 2 x).free 3⟩⟩
theorem Box.pt4 {w : World} {g : Nat} {t : TypeId} {a b c d : Value} (h : Box w g t #[a, b, c, d]) (u v x y : Value) : Box ((((w.setCell ⟨g, 0, none⟩ u).setCell ⟨g, 1, none⟩ v).setCell ⟨g, 2, none⟩ x).setCell ⟨g, 3, none⟩ y) g t #[u, v, x, y] := (((h.set 0 u).set 1 v).set 2 x).set 3 y
theorem only_pt2 (w : World) (g : Nat) (u v : Value) : Only g w ((w.setCell ⟨g, 0, none⟩ u).setCell ⟨g, 1, none⟩ v) := (Only.set g 0 w u).trans (Only.set g 1 _ v)
theorem only_pt4 (w : World) (g : Nat) (u v x y : Value) : Only g w ((((w.setCell ⟨g, 0, none⟩ u).setCell ⟨g, 1, none⟩ v).setCell ⟨g, 2, none⟩ x).setCell ⟨g, 3, none⟩ y) := (only_pt2 w g u v).trans ((Only.set g 2 _ x).trans (Only.set g 3 _ y))

/-- An answer. -/
def ansV (c n : Int) (d : ByteArray) (v : Value) : Value := .agg #[.int .i64 c, .int .i64 n, .string d, v]
def nilS : Value := .slice none 0 0

set_option maxRecDepth 100000 in
theorem refused_any (e : Int) (w : World) : Calls Tryz.prog 31 #[.int .i64 e] w fun r w' => r = .returned (ansV e 0 noB nilS) ∧ Below w.heap.size w w' := by
  have hb := Box.new w 33 #[.int .i64 e, .int .i64 0, .string noB, .slice none 0 0]
  have HB := Lib.hid hb
  clear hb
  go_enter Tryz.func31, Tryz.ntmps31
  go_wp2
  refine bodyPost_ret (results_cell_row rfl _ _ w.heap.size 33 _ (0, 0) _ rfl HB.out Tryz.underlying33 rfl sizeAns) rfl ?_
  exact ⟨rfl, (Below.refl _ _).alloc (Nat.le_refl _) _⟩

set_option maxRecDepth 100000 in
theorem newDir_any (w : World) : Calls Tryz.prog 26 #[] w fun r w' => r = .returned (.pointer (some ⟨w.heap.size + 1, 0, none⟩)) ∧ Below w.heap.size w w' ∧ Box w' (w.heap.size + 1) 67 #[.bool true, .map (some w.heap.size), .string noB, .int .i64 0] ∧ MapAt EnS w' w.heap.size [] := by
  have hmm := @run_makeMap Tryz.prog
  have hb := Box.new (w.alloc (.map #[] 0)) 67 #[.bool true, .map (some w.heap.size), .string noB, .int .i64 0]
  rw [size_alloc] at hb
  have HB := Lib.hid hb
  have HM := Lib.hid (MapAt.of (w' := (w.alloc (.map #[] 0)).alloc (.cells #[.bool true, .map (some w.heap.size), .string noB, .int .i64 0] 67 (0, 0))) (MapAt.made EnS w) (Below.heap_alloc _ _ _ (by rw [size_alloc]; omega)))
  clear hb
  go_enter Tryz.func26, Tryz.ntmps26
  go_wp2
  go_ret
  exact ⟨by simp, ((Below.refl _ _).alloc (Nat.le_refl _) _).alloc (by rw [size_alloc]; omega) _, HB.out, HM.out⟩

/-- Where an entry stands. -/
def spotV (em : Option Nat) (c : ByteArray) : Value := .agg #[.map em, .string c]
set_option maxRecDepth 100000 in
theorem fill_any (w : World) {me : Nat} {e : List (ByteArray × Int)} (h : MapAt EnS w me e) (hl : e.length ≤ 2000000) (c : ByteArray) (hc : c.size ≤ maxLen) (n : Int) :
    Calls Tryz.prog 71 #[spotV (some me) c, .int .i64 n] w fun r w' => r = .returned (.tuple #[]) ∧ MapAt EnS w' me (putL e c n) ∧ Chg [me] w w' := by
  have hb := Box.new w 106 #[.map (some me), .string c]
  have b0 : (w.alloc (.cells #[.map (some me), .string c] 106 (0, 0))).cell? ⟨w.heap.size, 0, none⟩ = some (.map (some me)) := hb.cell 0 _ rfl
  have b1 : (w.alloc (.cells #[.map (some me), .string c] 106 (0, 0))).cell? ⟨w.heap.size, 1, none⟩ = some (.string c) := hb.cell 1 _ rfl
  have h1 := h.keep ((Below.refl _ w).alloc (Nat.le_refl _) (.cells #[.map (some me), .string c] 106 (0, 0)))
  clear hb
  unfold spotV
  go_enter Tryz.func71, Tryz.ntmps71
  go_wp2_with (first
    | (at_mapUpdate; refine map_store (S := EnS) rfl _ _ _ _ rfl rfl rfl h1 (by unfold maxLen; omega) (k := c) (v := n) rfl rfl hc ?_; intro w1 h2 hc2)
    | fail)
  have HM := Lib.hid h2
  have HC := Lib.hid (((Chg.refl [me] w).alloc (.cells #[.map (some me), .string c] 106 (0, 0))).trans hc2)
  clear h2 hc2 h1 h b0 b1
  go_wp2
  go_end0
  exact ⟨rfl, HM.out, HC.out⟩
set_option maxRecDepth 100000 in
theorem empty_any (w : World) {me : Nat} {e : List (ByteArray × Int)} (h : MapAt EnS w me e) (c : ByteArray) (hc : c.size ≤ maxLen) :
    Calls Tryz.prog 73 #[spotV (some me) c] w fun r w' => r = .returned (.tuple #[]) ∧ MapAt EnS w' me (dropL e c) ∧ Chg [me] w w' := by
  have hb := Box.new w 106 #[.map (some me), .string c]
  have b0 : (w.alloc (.cells #[.map (some me), .string c] 106 (0, 0))).cell? ⟨w.heap.size, 0, none⟩ = some (.map (some me)) := hb.cell 0 _ rfl
  have b1 : (w.alloc (.cells #[.map (some me), .string c] 106 (0, 0))).cell? ⟨w.heap.size, 1, none⟩ = some (.string c) := hb.cell 1 _ rfl
  have h1 := h.keep ((Below.refl _ w).alloc (Nat.le_refl _) (.cells #[.map (some me), .string c] 106 (0, 0)))
  clear hb
  unfold spotV
  go_enter Tryz.func73, Tryz.ntmps73
  go_wp2_with (first
    | (at_delete; refine map_delete (S := EnS) rfl _ _ _ _ rfl rfl rfl rfl h1 (k := c) rfl hc ?_; intro w1 h2 hc2)
    | fail)
  have HM := Lib.hid h2
  have HC := Lib.hid (((Chg.refl [me] w).alloc (.cells #[.map (some me), .string c] 106 (0, 0))).trans hc2)
  clear h2 hc2 h1 h b0 b1
  go_wp2
  go_end0
  exact ⟨rfl, HM.out, HC.out⟩

theorem Rel.leadT {M : MoD} {G : GD} {k : Nat} (h : Rel M G k) {p : ByteArray} (h0 : (leadM M p).2 = 0) : ∃ t, findL M.l (leadM M p).1 = some t := by
  rw [lead_rel h] at h0 ⊢
  obtain ⟨t, ht, _⟩ := h.dirO (leadG_at h0).2
  exact ⟨t, ht⟩
section
variable {x : TrD} {G : GD} {k : Nat} {w : World} (h : TrAt w x) (hr : Rel x.M G k) (hk : k ≤ 1000000)
include h hr hk
set_option maxRecDepth 100000 in
set_option maxHeartbeats 2000000 in
theorem file_any (p : ByteArray) (hp : p.size ≤ 100000) : Calls Tryz.prog 69 #[.pointer (some ⟨x.b, 0, none⟩), .string p] w fun e w' =>
    e = .returned (.tuple #[.int .i64 (fileM x.M p).1, .int .i64 (fileM x.M p).2]) ∧ Below w.heap.size w w' := by
  obtain ⟨R, hR⟩ : ∃ R, R = fileM x.M p := ⟨_, rfl⟩
  rw [← hR]
  have HLD := Lib.hid (lead_any h hr hk p hp)
  obtain ⟨n, e0⟩ : ∃ q : Int × Int, q = leadM x.M p := ⟨_, rfl⟩
  have HT := Lib.hid h
  have hlt := fun q => hr.leadT (p := p) q
  have HNB := Lib.hid (fun n t (q : findL x.M.l n = some t) => hr.numB q)
  have HK := Lib.hid hk
  unfold fileM at hR
  rw [← e0] at hR hlt HLD
  obtain ⟨n, e⟩ := n
  dsimp only at hR hlt HLD
  clear h hr hk e0
  by_cases hz : e = 0
  · subst hz
    obtain ⟨t, ht⟩ := hlt rfl
    obtain ⟨r, hrr, hrt⟩ := TrD.row ht
    have hdo : dirOf x.M n = t.dir := by unfold dirOf; rw [ht]
    rw [hdo] at hR
    have hnb := HNB.out n t ht
    have hkk := HK.out
    have HRR := Lib.hid hrr
    have HRT := Lib.hid hrt
    clear hdo hlt ht hrr hrt
    have HN : Hid (0 ≤ n ∧ n ≤ 4611686018427387904) := ⟨hnb.1, by omega⟩
    clear hnb hkk
    cases hd : t.dir with
    | true =>
      rw [hd] at hR
      have HR : Hid (R = (0, 10)) := hR
      clear hR
      go_enter Tryz.func69, Tryz.ntmps69
      go_wp2_with fail
      refine HLD.out.mono ?_
      rintro e w1 ⟨rfl, hb⟩
      have HB := Lib.hid hb
      have HT1 := Lib.hid (HT.out.keep hb)
      have t0 : w1.cell? ⟨x.b, 0, none⟩ = some (.map (some x.m)) := HT1.out.box.cell 0 _ rfl
      have d0 : w1.cell? ⟨r.p, 0, none⟩ = some (.bool true) := by rw [← hd, ← HRT.out]; exact (HT1.out.at_ HRR.out).1.cell 0 _ rfl
      have hlk := HT1.out.look HRR.out HN.out.1 HN.out.2
      clear hb hd
      go_wp2
      go_ret2
      exact ⟨by rw [HR.out]; rfl, HB.out⟩
    | false =>
      rw [hd] at hR
      have HR : Hid (R = (n, 0)) := hR
      clear hR
      go_enter Tryz.func69, Tryz.ntmps69
      go_wp2_with fail
      refine HLD.out.mono ?_
      rintro e w1 ⟨rfl, hb⟩
      have HB := Lib.hid hb
      have HT1 := Lib.hid (HT.out.keep hb)
      have t0 : w1.cell? ⟨x.b, 0, none⟩ = some (.map (some x.m)) := HT1.out.box.cell 0 _ rfl
      have d0 : w1.cell? ⟨r.p, 0, none⟩ = some (.bool false) := by rw [← hd, ← HRT.out]; exact (HT1.out.at_ HRR.out).1.cell 0 _ rfl
      have hlk := HT1.out.look HRR.out HN.out.1 HN.out.2
      clear hb hd
      go_wp2
      go_ret2
      exact ⟨by rw [HR.out]; rfl, HB.out⟩
  · have HR : Hid (R = (n, e)) := by
      rw [if_neg (fun q => hz q.1)] at hR
      exact hR
    have hq : (e == 0) = false := by simpa using hz
    clear hR hz hlt
    go_enter Tryz.func69, Tryz.ntmps69
    go_wp2_with fail
    refine HLD.out.mono ?_
    rintro e w1 ⟨rfl, hb⟩
    have HB := Lib.hid hb
    clear hb
    go_wp2
    go_ret2
    exact ⟨by rw [HR.out]; rfl, HB.out⟩
set_option maxRecDepth 100000 in
set_option maxHeartbeats 2000000 in
theorem directory_any (p : ByteArray) (hp : p.size ≤ 100000) : Calls Tryz.prog 74 #[.pointer (some ⟨x.b, 0, none⟩), .string p] w fun e w' =>
    e = .returned (.tuple #[.int .i64 (dirM x.M p).1, .int .i64 (dirM x.M p).2]) ∧ Below w.heap.size w w' := by
  obtain ⟨R, hR⟩ : ∃ R, R = dirM x.M p := ⟨_, rfl⟩
  rw [← hR]
  have HLD := Lib.hid (lead_any h hr hk p hp)
  obtain ⟨n, e0⟩ : ∃ q : Int × Int, q = leadM x.M p := ⟨_, rfl⟩
  have HT := Lib.hid h
  have hlt := fun q => hr.leadT (p := p) q
  have HNB := Lib.hid (fun n t (q : findL x.M.l n = some t) => hr.numB q)
  have HK := Lib.hid hk
  unfold dirM at hR
  rw [← e0] at hR hlt HLD
  obtain ⟨n, e⟩ := n
  dsimp only at hR hlt HLD
  clear h hr hk e0
  by_cases hz : e = 0
  · subst hz
    obtain ⟨t, ht⟩ := hlt rfl
    obtain ⟨r, hrr, hrt⟩ := TrD.row ht
    have hdo : dirOf x.M n = t.dir := by unfold dirOf; rw [ht]
    rw [hdo] at hR
    have hnb := HNB.out n t ht
    have hkk := HK.out
    have HRR := Lib.hid hrr
    have HRT := Lib.hid hrt
    clear hdo hlt ht hrr hrt
    have HN : Hid (0 ≤ n ∧ n ≤ 4611686018427387904) := ⟨hnb.1, by omega⟩
    clear hnb hkk
    cases hd : t.dir with
    | false =>
      rw [hd] at hR
      have HR : Hid (R = (0, 11)) := hR
      clear hR
      go_enter Tryz.func74, Tryz.ntmps74
      go_wp2_with fail
      refine HLD.out.mono ?_
      rintro e w1 ⟨rfl, hb⟩
      have HB := Lib.hid hb
      have HT1 := Lib.hid (HT.out.keep hb)
      have t0 : w1.cell? ⟨x.b, 0, none⟩ = some (.map (some x.m)) := HT1.out.box.cell 0 _ rfl
      have d0 : w1.cell? ⟨r.p, 0, none⟩ = some (.bool false) := by rw [← hd, ← HRT.out]; exact (HT1.out.at_ HRR.out).1.cell 0 _ rfl
      have hlk := HT1.out.look HRR.out HN.out.1 HN.out.2
      clear hb hd
      go_wp2
      go_ret2
      exact ⟨by rw [HR.out]; rfl, HB.out⟩
    | true =>
      rw [hd] at hR
      have HR : Hid (R = (n, 0)) := hR
      clear hR
      go_enter Tryz.func74, Tryz.ntmps74
      go_wp2_with fail
      refine HLD.out.mono ?_
      rintro e w1 ⟨rfl, hb⟩
      have HB := Lib.hid hb
      have HT1 := Lib.hid (HT.out.keep hb)
      have t0 : w1.cell? ⟨x.b, 0, none⟩ = some (.map (some x.m)) := HT1.out.box.cell 0 _ rfl
      have d0 : w1.cell? ⟨r.p, 0, none⟩ = some (.bool true) := by rw [← hd, ← HRT.out]; exact (HT1.out.at_ HRR.out).1.cell 0 _ rfl
      have hlk := HT1.out.look HRR.out HN.out.1 HN.out.2
      clear hb hd
      go_wp2
      go_ret2
      exact ⟨by rw [HR.out]; rfl, HB.out⟩
  · have HR : Hid (R = (n, e)) := by
      rw [if_neg (fun q => hz q.1)] at hR
      exact hR
    have hq : (e == 0) = false := by simpa using hz
    clear hR hz hlt
    go_enter Tryz.func74, Tryz.ntmps74
    go_wp2_with fail
    refine HLD.out.mono ?_
    rintro e w1 ⟨rfl, hb⟩
    have HB := Lib.hid hb
    clear hb
    go_wp2
    go_ret2
    exact ⟨by rw [HR.out]; rfl, HB.out⟩
end
end Go.Proofs.YteimpebfenpifaaGreatDoor

namespace Go.Proofs.YteimpebfenpifaaGreatDoor
open Go.RowKit Go.ChangeShapes Go.WideShapes Go.ChangeAt

/-- What free answers. -/
def FreeR (x : TrD) (w : World) (q : Int × ByteArray × Int) (e : Ending) (w' : World) : Prop :=
  Below w.heap.size w w' ∧ ((q.2.2 ≠ 0 ∧ e = .returned (.tuple #[spotV none noB, .int .i64 q.2.2])) ∨
    (q.2.2 = 0 ∧ ∃ r me, findL x.rows q.1 = some r ∧ r.em = some me ∧ e = .returned (.tuple #[spotV (some me) q.2.1, .int .i64 0])))
theorem FreeR.no {x : TrD} {w w' : World} {R : Int × ByteArray × Int} {e : Int} (h : R = (0, noB, e)) (h0 : e ≠ 0) (hb : Below w.heap.size w w') : FreeR x w R (.returned (.tuple #[.agg #[.map none, .string ⟨#[]⟩], .int .i64 e])) w' := by
  subst h
  exact ⟨hb, .inl ⟨h0, rfl⟩⟩
theorem parD_len (p : ByteArray) (h : (parD p).e = 0) : (parD p).p.size ≤ p.size := by
  by_cases hs : (splitD p).2 = 0
  · by_cases hr : (splitD p).1 = []
    · rw [parD_root hs hr] at h; cases h
    · rw [parD_ok hs hr]
      have := join_front (splitD p).1
      rw [join_split hs] at this
      exact this
  · rw [parD_err hs] at h; exact absurd h hs
theorem parD_name (p : ByteArray) (h : (parD p).e = 0) : nameD (parD p).n := by
  by_cases hs : (splitD p).2 = 0
  · by_cases hr : (splitD p).1 = []
    · rw [parD_root hs hr] at h; cases h
    · rw [parD_ok hs hr]
      refine names_ok hs _ ?_
      dsimp only
      rcases List.eq_nil_or_concat (splitD p).1 with e | ⟨l, c, e⟩
      · exact absurd e hr
      · rw [e]; simp
  · rw [parD_err hs] at h; exact absurd h hs
theorem Rel.dirT {M : MoD} {G : GD} {k : Nat} (h : Rel M G k) {p : ByteArray} (h0 : (dirM M p).2 = 0) : ∃ t, findL M.l (dirM M p).1 = some t ∧ t.dir = true := by
  unfold dirM at h0 ⊢
  by_cases hz : (leadM M p).2 = 0
  · obtain ⟨t, ht⟩ := h.leadT hz
    have hdo : dirOf M (leadM M p).1 = t.dir := by unfold dirOf; rw [ht]
    by_cases hd : dirOf M (leadM M p).1 = false
    · rw [if_pos ⟨hz, hd⟩] at h0; cases h0
    · rw [if_neg (fun q => hd q.2)]
      exact ⟨t, ht, by rw [← hdo]; simpa using hd⟩
  · rw [if_neg (fun q => hz q.1)] at h0; exact absurd h0 hz
section
variable {x : TrD} {G : GD} {k : Nat} {w : World} (h : TrAt w x) (hr : Rel x.M G k) (hk : k ≤ 1000000)
include h hr hk
set_option maxRecDepth 100000 in
set_option maxHeartbeats 4000000 in
theorem free_any (p : ByteArray) (hp : p.size ≤ 100000) : Calls Tryz.prog 70 #[.pointer (some ⟨x.b, 0, none⟩), .string p] w (FreeR x w (freeM x.M p)) := by
  obtain ⟨R, hR⟩ : ∃ R, R = freeM x.M p := ⟨_, rfl⟩
  rw [← hR]
  have HP := Lib.hid hp
  have HT := Lib.hid h
  have HX := Lib.hid hr
  have HK := Lib.hid hk
  obtain ⟨g, hg⟩ : ∃ g, g = w.heap.size := ⟨_, rfl⟩
  have HG := Lib.hid hg
  by_cases h0 : p = rootB
  · have HR : Hid (R = (0, noB, 9)) := by unfold freeM at hR; rw [if_pos h0] at hR; exact hR
    have hq : (p.toList == [47]) = true := by rw [h0]; decide +kernel
    have hb := Box.new w 106 #[.map none, .string ⟨#[]⟩]
    have HB := Lib.hid hb
    clear h0 hR hb h hr hk hp hg
    go_enter Tryz.func70, Tryz.ntmps70
    go_wp2
    refine bodyPost_ret (results_cellT rfl _ _ w.heap.size 106 _ (0, 0) _ rfl HB.out Tryz.underlying106 rfl sizeSpot) rfl ?_
    exact FreeR.no HR.out (by decide) ((Below.refl _ _).alloc (Nat.le_refl _) _)
  · have hq : (p.toList == [47]) = false := by
      rw [beq_eq_false_iff_ne, ByteArray.toList_eq]
      intro e
      exact h0 (pb_ext (by rw [show pb p = [47] from e]; rfl))
    have hR1 : R = if (parD p).e ≠ 0 then (0, noB, (parD p).e) else if (dirM x.M (parD p).p).2 ≠ 0 then (0, noB, (dirM x.M (parD p).p).2) else
        if (findL (entsOf x.M (dirM x.M (parD p).p).1) (parD p).n).isSome = true then (0, noB, 9) else ((dirM x.M (parD p).p).1, (parD p).n, 0) := by
      unfold freeM at hR; rw [if_neg h0] at hR; exact hR
    have hpl := parD_len p
    have hpn := parD_name p
    have HPA := Lib.hid (fun W => parent_any p hp W)
    generalize parD p = D at *
    obtain ⟨dp, dn, de⟩ := D
    dsimp only at hR1 hpl hpn
    have HPL := Lib.hid (fun q => Nat.le_trans (hpl q) hp)
    have HPN := Lib.hid hpn
    have HR1 := Lib.hid hR1
    have HW0 := Lib.hid ((Below.refl w.heap.size w).alloc (Nat.le_refl _) (.cells #[.map none, .string ⟨#[]⟩] 106 (0, 0)))
    have HB0 := Lib.hid (Box.new w 106 #[.map none, .string ⟨#[]⟩])
    have HS0 : Hid (g < (w.alloc (.cells #[.map none, .string ⟨#[]⟩] 106 (0, 0))).heap.size) := by show _ < _; rw [size_alloc]; omega
    have HT0 := Lib.hid (h.keep HW0.out)
    clear h0 hR hR1 hpl hpn h hr hk hp
    go_enter Tryz.func70, Tryz.ntmps70
    go_wp2_with fail
    rw [← hg] at HB0 HW0 ⊢
    clear hg
    generalize World.alloc w _ = w0 at *
    refine (HPA.out _).mono ?_
    rintro e1 w1 ⟨rfl, hb⟩
    unfold parV
    have HB1 := Lib.hid (HB0.out.keep hb HS0.out)
    have HW1 := Lib.hid (HW0.out.trans (hb.mono (Nat.le_of_lt HS0.out)))
    have HT1 := Lib.hid (HT0.out.keep hb)
    have HS1 : Hid (g < w1.heap.size) := Nat.lt_of_lt_of_le HS0.out hb.size
    clear hb HB0 HW0 HT0 HS0 HPA
    by_cases he : de = 0
    · subst he
      have hR1 := HR1.out
      rw [if_neg (fun e => e rfl)] at hR1
      have HR2 := Lib.hid hR1
      clear hR1 HR1
      have HN := Lib.hid (HPN.out rfl)
      have HPZ := Lib.hid (HPL.out rfl)
      clear HPN HPL
      have HDT := Lib.hid (fun q => HX.out.dirT (p := dp) q)
      have HDA := Lib.hid (directory_any HT1.out HX.out HK.out dp HPZ.out)
      generalize dirM x.M dp = D at *
      obtain ⟨d, e⟩ := D
      go_wp2_with fail
      refine HDA.out.mono ?_
      rintro e1 w2 ⟨rfl, hb⟩
      have HB2 := Lib.hid (HB1.out.keep hb HS1.out)
      have HW2 := Lib.hid (HW1.out.trans (hb.mono (Nat.le_of_lt HS1.out)))
      have HT2 := Lib.hid (HT1.out.keep hb)
      have HS2 : Hid (g < w2.heap.size) := Nat.lt_of_lt_of_le HS1.out hb.size
      clear hb HB1 HW1 HT1 HS1 HDA
      have hR1 := HR2.out
      obtain ⟨s1, s2, s3⟩ := HB2.out.st2
      by_cases hz : e = 0
      · subst hz
        rw [if_neg (fun e => e rfl)] at hR1
        obtain ⟨t, ht, htd⟩ := HDT.out rfl
        obtain ⟨r, hrr, hrt⟩ := TrD.row ht
        have heo : entsOf x.M d = t.ents := by unfold entsOf; rw [ht]
        rw [heo] at hR1
        have hnb := HX.out.numB ht
        have hkk := HK.out
        have HRR := Lib.hid hrr
        have HRA := Lib.hid (HT2.out.at_ hrr)
        obtain ⟨me, hme, hma⟩ := HRA.out.dirBox (by rw [hrt, htd])
        have HME := Lib.hid hme
        rw [hrt] at hma
        have t0 : w2.cell? ⟨x.b, 0, none⟩ = some (.map (some x.m)) := HT2.out.box.cell 0 _ rfl
        have d1 : w2.cell? ⟨r.p, 1, none⟩ = some (.map (some me)) := by rw [← hme]; exact HRA.out.1.cell 1 _ rfl
        have lk1 := HT2.out.look hrr hnb.1 (by omega)
        have lk2 := EmAt.look hma (name_len HN.out)
        clear ht hrr hrt heo hnb hkk hme hma htd
        cases hf : findL t.ents dn with
        | some j =>
          rw [hf] at hR1 lk2
          have HR : Hid (R = (0, noB, 9)) := hR1
          clear hR1 hf HR2
          go_wp2
          refine bodyPost_ret (results_cellT rfl _ _ g 106 _ (0, 0) _ rfl (HB2.out.pt2 _ _) Tryz.underlying106 rfl sizeSpot) rfl ?_
          exact FreeR.no HR.out (by decide) (by rw [← HG.out]; exact HW2.out.trans ((only_pt2 w2 g (.map none) (.string ⟨#[]⟩)).below' (Nat.le_refl _) (Nat.le_of_lt HS2.out)))
        | none =>
          rw [hf] at hR1 lk2
          have HR : Hid (R = (d, dn, 0)) := hR1
          clear hR1 hf HR2
          go_wp2
          refine bodyPost_ret (results_cellT rfl _ _ g 106 _ (0, 0) _ rfl (HB2.out.pt2 _ _) Tryz.underlying106 rfl sizeSpot) rfl ?_
          refine ⟨(by rw [← HG.out]; exact HW2.out.trans ((only_pt2 w2 g (.map (some me)) (.string dn)).below' (Nat.le_refl _) (Nat.le_of_lt HS2.out))), .inr ?_⟩
          rw [HR.out]
          exact ⟨rfl, r, me, HRR.out, HME.out, rfl⟩
      · rw [if_pos hz] at hR1
        have HR := Lib.hid hR1
        have hz2 : (e != 0) = true := by simpa using hz
        have HZ := Lib.hid hz
        clear hz hR1 HR2
        go_wp2
        refine bodyPost_ret (results_cellT rfl _ _ g 106 _ (0, 0) _ rfl (HB2.out.pt2 _ _) Tryz.underlying106 rfl sizeSpot) rfl ?_
        exact FreeR.no HR.out HZ.out (by rw [← HG.out]; exact HW2.out.trans ((only_pt2 w2 g (.map none) (.string ⟨#[]⟩)).below' (Nat.le_refl _) (Nat.le_of_lt HS2.out)))
    · have HR : Hid (R = (0, noB, de)) := by have h9 := HR1.out; rw [if_pos he] at h9; exact h9
      have hz2 : (de != 0) = true := by simpa using he
      have HZ := Lib.hid he
      obtain ⟨s1, s2, s3⟩ := HB1.out.st2
      clear he
      go_wp2
      refine bodyPost_ret (results_cellT rfl _ _ g 106 _ (0, 0) _ rfl (HB1.out.pt2 _ _) Tryz.underlying106 rfl sizeSpot) rfl ?_
      exact FreeR.no HR.out HZ.out (by rw [← HG.out]; exact HW1.out.trans ((only_pt2 w1 g (.map none) (.string ⟨#[]⟩)).below' (Nat.le_refl _) (Nat.le_of_lt HS1.out)))
end
end Go.Proofs.YteimpebfenpifaaGreatDoor
