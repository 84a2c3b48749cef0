/-
  Package model: file, directory, free, spot, fill, empty, refused, newDir.
-/
import Derived.Test.YteimpebfenpifaaGreatDoorMg19
import Derived.Test.YteimpebfenpifaaGreatDoorMg12
namespace Go.Proofs.YteimpebfenpifaaGreatDoor
open Go.RowKit Go.ChangeShapes Go.WideShapes Go.ChangeAt

theorem results_cellT {P : Program} {fn : Func} {p u : Tmp} {ty : TypeId} (h : fn.results = #[.cell p ty, .tmp u]) (tmps : Array Value) (w : World) (g : Nat) (t : TypeId) (cs : Array Value) (fr : Nat × Nat) (d : TypeDesc)
    (hp : tmps.getD p undef = .pointer (some ⟨g, 0, none⟩)) (hg : w.heap[g]? = some (.cells cs t fr))
    (hu : P.underlying ty = some d) (hd : (match d with | .struct _ | .array _ _ => true | _ => false) = true) (hi : (P.info? ty).map (·.size) = some cs.size) :
    (results fn tmps).run P w = .ok (.tuple #[.agg cs, tmps.getD u undef]) w := by
  rw [results_cell_tmp h, hp]
  simp [asAddr, run_loadVar_row w g t ty cs fr d hg hu hd hi]
theorem sizeSpot : (Tryz.prog.info? 106).map (·.size) = some 2 := by kernel_rfl
theorem sizeAns : (Tryz.prog.info? 33).map (·.size) = some 4 := by kernel_rfl

/-- Stores into a block of two cells, of four. -/
theorem Box.st2 {w : World} {g : Nat} {t : TypeId} {a b : Value} (h : Box w g t #[a, b]) : w.cell? ⟨g, 0, none⟩ = some a ∧ w.frozen? ⟨g, 0, none⟩ = false ∧
    ∀ u, (w.setCell ⟨g, 0, none⟩ u).cell? ⟨g, 1, none⟩ = some b ∧ (w.setCell ⟨g, 0, none⟩ u).frozen? ⟨g, 1, none⟩ = false :=
  ⟨h.cell 0 _ rfl, h.free 0, fun u => ⟨(h.set 0 u).cell 1 _ rfl, (h.set 0 u).free 1⟩⟩
theorem Box.pt2 {w : World} {g : Nat} {t : TypeId} {a b : Value} (h : Box w g t #[a, b]) (u v : Value) : Box ((w.setCell ⟨g, 0, none⟩ u).setCell ⟨g, 1, none⟩ v) g t #[u, v] := (h.set 0 u).set 1 v
theorem Box.st4 {w : World} {g : Nat} {t : TypeId} {a b c d : Value} (h : Box w g t #[a, b, c, d]) : (w.cell? ⟨g, 0, none⟩ = some a ∧ w.frozen? ⟨g, 0, none⟩ = false) ∧
    (∀ u, (w.setCell ⟨g, 0, none⟩ u).cell? ⟨g, 1, none⟩ = some b ∧ (w.setCell ⟨g, 0, none⟩ u).frozen? ⟨g, 1, none⟩ = false) ∧
    (∀ u v, ((w.setCell ⟨g, 0, none⟩ u).setCell ⟨g, 1, none⟩ v).cell? ⟨g, 2, none⟩ = some c ∧ ((w.setCell ⟨g, 0, none⟩ u).setCell ⟨g, 1, none⟩ v).frozen? ⟨g, 2, none⟩ = false) ∧
    (∀ u v x, (((w.setCell ⟨g, 0, none⟩ u).setCell ⟨g, 1, none⟩ v).setCell ⟨g, 2, none⟩ x).cell? ⟨g, 3, none⟩ = some d ∧ (((w.setCell ⟨g, 0, none⟩ u).setCell ⟨g, 1, none⟩ v).setCell ⟨g, 2, none⟩ x).frozen? ⟨g, 3, none⟩ = false) :=
  ⟨⟨h.cell 0 _ rfl, h.free 0⟩, fun u => ⟨(h.set 0 u).cell 1 _ rfl, (h.set 0 u).free 1⟩, fun u v => ⟨((h.set 0 u).set 1 v).cell 2 _ rfl, ((h.set 0 u).set 1 v).free 2⟩, fun u v x => ⟨(((h.set 0 u).set 1 v).set 2 x).cell 3 _ rfl, (((h.set 0 u).set 1 v).set 2 x).free 3⟩⟩
theorem Box.pt4 {w : World} {g : Nat} {t : TypeId} {a b c d : Value} (h : Box w g t #[a, b, c, d]) (u v x y : Value) : Box ((((w.setCell ⟨g, 0, none⟩ u).setCell ⟨g, 1, none⟩ v).setCell ⟨g, 2, none⟩ x).setCell ⟨g, 3, none⟩ y) g t #[u, v, x, y] := (((h.set 0 u).set 1 v).set 2 x).set 3 y
theorem only_pt2 (w : World) (g : Nat) (u v : Value) : Only g w ((w.setCell ⟨g, 0, none⟩ u).setCell ⟨g, 1, none⟩ v) := (Only.set g 0 w u).trans (Only.set g 1 _ v)
theorem only_pt4 (w : World) (g : Nat) (u v x y : Value) : Only g w ((((w.setCell ⟨g, 0, none⟩ u).setCell ⟨g, 1, none⟩ v).setCell ⟨g, 2, none⟩ x).setCell ⟨g, 3, none⟩ y) := (only_pt2 w g u v).trans ((Only.set g 2 _ x).trans (Only.set g 3 _ y))

/-- An answer. -/
def ansV (c n : Int) (d : ByteArray) (v : Value) : Value := .agg #[.int .i64 c, .int .i64 n, .string d, v]
def nilS : Value := .slice none 0 0

set_option maxRecDepth 100000 in
theorem refused_any (e : Int) (w : World) : Calls Tryz.prog 31 #[.int .i64 e] w fun r w' => r = .returned (ansV e 0 noB nilS) ∧ Below w.heap.size w w' := by
  have hb := Box.new w 33 #[.int .i64 e, .int .i64 0, .string noB, .slice none 0 0]
  have HB := Lib.hid hb
  clear hb
  go_enter Tryz.func31, Tryz.ntmps31
  go_wp2
  refine bodyPost_ret (results_cell_row rfl _ _ w.heap.size 33 _ (0, 0) _ rfl HB.out Tryz.underlying33 rfl sizeAns) rfl ?_
  exact ⟨rfl, (Below.refl _ _).alloc (Nat.le_refl _) _⟩

set_option maxRecDepth 100000 in
theorem newDir_any (w : World) : Calls Tryz.prog 26 #[] w fun r w' => r = .returned (.pointer (some ⟨w.heap.size + 1, 0, none⟩)) ∧ Below w.heap.size w w' ∧ Box w' (w.heap.size + 1) 67 #[.bool true, .map (some w.heap.size), .string noB, .int .i64 0] ∧ MapAt EnS w' w.heap.size [] := by
  have hmm := @run_makeMap Tryz.prog
  have hb := Box.new (w.alloc (.map #[] 0)) 67 #[.bool true, .map (some w.heap.size), .string noB, .int .i64 0]
  rw [size_alloc] at hb
  have HB := Lib.hid hb
  have HM := Lib.hid (MapAt.of (w' := (w.alloc (.map #[] 0)).alloc (.cells #[.bool true, .map (some w.heap.size), .string noB, .int .i64 0] 67 (0, 0))) (MapAt.made EnS w) (Below.heap_alloc _ _ _ (by rw [size_alloc]; omega)))
  clear hb
  go_enter Tryz.func26, Tryz.ntmps26
  go_wp2
  go_ret
  exact ⟨by simp, ((Below.refl _ _).alloc (Nat.le_refl _) _).alloc (by rw [size_alloc]; omega) _, HB.out, HM.out⟩

/-- Where an entry stands. -/
def spotV (em : Option Nat) (c : ByteArray) : Value := .agg #[.map em, .string c]
set_option maxRecDepth 100000 in
theorem fill_any (w : World) {me : Nat} {e : List (ByteArray × Int)} (h : MapAt EnS w me e) (hl : e.length ≤ 2000000) (c : ByteArray) (hc : c.size ≤ maxLen) (n : Int) :
    Calls Tryz.prog 71 #[spotV (some me) c, .int .i64 n] w fun r w' => r = .returned (.tuple #[]) ∧ MapAt EnS w' me (putL e c n) ∧ Chg [me] w w' := by
  have hb := Box.new w 106 #[.map (some me), .string c]
  have b0 : (w.alloc (.cells #[.map (some me), .string c] 106 (0, 0))).cell? ⟨w.heap.size, 0, none⟩ = some (.map (some me)) := hb.cell 0 _ rfl
  have b1 : (w.alloc (.cells #[.map (some me), .string c] 106 (0, 0))).cell? ⟨w.heap.size, 1, none⟩ = some (.string c) := hb.cell 1 _ rfl
  have h1 := h.keep ((Below.refl _ w).alloc (Nat.le_refl _) (.cells #[.map (some me), .string c] 106 (0, 0)))
  clear hb
  unfold spotV
  go_enter Tryz.func71, Tryz.ntmps71
  go_wp2_with (first
    | (at_mapUpdate; refine map_store (S := EnS) rfl _ _ _ _ rfl rfl rfl h1 (by unfold maxLen; omega) (k := c) (v := n) rfl rfl hc ?_; intro w1 h2 hc2)
    | fail)
  have HM := Lib.hid h2
  have HC := Lib.hid (((Chg.refl [me] w).alloc (.cells #[.map (some me), .string c] 106 (0, 0))).trans hc2)
  clear h2 hc2 h1 h b0 b1
  go_wp2
  go_end0
  exact ⟨rfl, HM.out, HC.out⟩
set_option maxRecDepth 100000 in
theorem empty_any (w : World) {me : Nat} {e : List (ByteArray × Int)} (h : MapAt EnS w me e) (c : ByteArray) (hc : c.size ≤ maxLen) :
    Calls Tryz.prog 73 #[spotV (some me) c] w fun r w' => r = .returned (.tuple #[]) ∧ MapAt EnS w' me (dropL e c) ∧ Chg [me] w w' := by
  have hb := Box.new w 106 #[.map (some me), .string c]
  have b0 : (w.alloc (.cells #[.map (some me), .string c] 106 (0, 0))).cell? ⟨w.heap.size, 0, none⟩ = some (.map (some me)) := hb.cell 0 _ rfl
  have b1 : (w.alloc (.cells #[.map (some me), .string c] 106 (0, 0))).cell? ⟨w.heap.size, 1, none⟩ = some (.string c) := hb.cell 1 _ rfl
  have h1 := h.keep ((Below.refl _ w).alloc (Nat.le_refl _) (.cells #[.map (some me), .string c] 106 (0, 0)))
  clear hb
  unfold spotV
  go_enter Tryz.func73, Tryz.ntmps73
  go_wp2_with (first
    | (at_delete; refine map_delete (S := EnS) rfl _ _ _ _ rfl rfl rfl rfl h1 (k := c) rfl hc ?_; intro w1 h2 hc2)
    | fail)
  have HM := Lib.hid h2
  have HC := Lib.hid (((Chg.refl [me] w).alloc (.cells #[.map (some me), .string c] 106 (0, 0))).trans hc2)
  clear h2 hc2 h1 h b0 b1
  go_wp2
  go_end0
  exact ⟨rfl, HM.out, HC.out⟩

theorem Rel.leadT {M : MoD} {G : GD} {k : Nat} (h : Rel M G k) {p : ByteArray} (h0 : (leadM M p).2 = 0) : ∃ t, findL M.l (leadM M p).1 = some t := by
  rw [lead_rel h] at h0 ⊢
  obtain ⟨t, ht, _⟩ := h.dirO (leadG_at h0).2
  exact ⟨t, ht⟩
section
variable {x : TrD} {G : GD} {k : Nat} {w : World} (h : TrAt w x) (hr : Rel x.M G k) (hk : k ≤ 1000000)
include h hr hk
set_option maxRecDepth 100000 in
set_option maxHeartbeats 2000000 in
theorem file_any (p : ByteArray) (hp : p.size ≤ 100000) : Calls Tryz.prog 69 #[.pointer (some ⟨x.b, 0, none⟩), .string p] w fun e w' =>
    e = .returned (.tuple #[.int .i64 (fileM x.M p).1, .int .i64 (fileM x.M p).2]) ∧ Below w.heap.size w w' := by
  obtain ⟨R, hR⟩ : ∃ R, R = fileM x.M p := ⟨_, rfl⟩
  rw [← hR]
  have HLD := Lib.hid (lead_any h hr hk p hp)
  obtain ⟨n, e0⟩ : ∃ q : Int × Int, q = leadM x.M p := ⟨_, rfl⟩
  have HT := Lib.hid h
  have hlt := fun q => hr.leadT (p := p) q
  have HNB := Lib.hid (fun n t (q : findL x.M.l n = some t) => hr.numB q)
  have HK := Lib.hid hk
  unfold fileM at hR
  rw [← e0] at hR hlt HLD
  obtain ⟨n, e⟩ := n
  dsimp only at hR hlt HLD
  clear h hr hk e0
  by_cases hz : e = 0
  · subst hz
    obtain ⟨t, ht⟩ := hlt rfl
    obtain ⟨r, hrr, hrt⟩ := TrD.row ht
    have hdo : dirOf x.M n = t.dir := by unfold dirOf; rw [ht]
    rw [hdo] at hR
    have hnb := HNB.out n t ht
    have hkk := HK.out
    have HRR := Lib.hid hrr
    have HRT := Lib.hid hrt
    clear hdo hlt ht hrr hrt
    have HN : Hid (0 ≤ n ∧ n ≤ 4611686018427387904) := ⟨hnb.1, by omega⟩
    clear hnb hkk
    cases hd : t.dir with
    | true =>
      rw [hd] at hR
      have HR : Hid (R = (0, 10)) := hR
      clear hR
      go_enter Tryz.func69, Tryz.ntmps69
      go_wp2_with fail
      refine HLD.out.mono ?_
      rintro e w1 ⟨rfl, hb⟩
      have HB := Lib.hid hb
      have HT1 := Lib.hid (HT.out.keep hb)
      have t0 : w1.cell? ⟨x.b, 0, none⟩ = some (.map (some x.m)) := HT1.out.box.cell 0 _ rfl
      have d0 : w1.cell? ⟨r.p, 0, none⟩ = some (.bool true) := by rw [← hd, ← HRT.out]; exact (HT1.out.at_ HRR.out).1.cell 0 _ rfl
      have hlk := HT1.out.look HRR.out HN.out.1 HN.out.2
      clear hb hd
      go_wp2
      go_ret2
      exact ⟨by rw [HR.out]; rfl, HB.out⟩
    | false =>
      rw [hd] at hR
      have HR : Hid (R = (n, 0)) := hR
      clear hR
      go_enter Tryz.func69, Tryz.ntmps69
      go_wp2_with fail
      refine HLD.out.mono ?_
      rintro e w1 ⟨rfl, hb⟩
      have HB := Lib.hid hb
      have HT1 := Lib.hid (HT.out.keep hb)
      have t0 : w1.cell? ⟨x.b, 0, none⟩ = some (.map (some x.m)) := HT1.out.box.cell 0 _ rfl
      have d0 : w1.cell? ⟨r.p, 0, none⟩ = some (.bool false) := by rw [← hd, ← HRT.out]; exact (HT1.out.at_ HRR.out).1.cell 0 _ rfl
      have hlk := HT1.out.look HRR.out HN.out.1 HN.out.2
      clear hb hd
      go_wp2
      go_ret2
      exact ⟨by rw [HR.out]; rfl, HB.out⟩
  · have HR : Hid (R = (n, e)) := by
      rw [if_neg (fun q => hz q.1)] at hR
      exact hR
    have hq : (e == 0) = false := by simpa using hz
    clear hR hz hlt
    go_enter Tryz.func69, Tryz.ntmps69
    go_wp2_with fail
    refine HLD.out.mono ?_
    rintro e w1 ⟨rfl, hb⟩
    have HB := Lib.hid hb
    clear hb
    go_wp2
    go_ret2
    exact ⟨by rw [HR.out]; rfl, HB.out⟩
set_option maxRecDepth 100000 in
set_option maxHeartbeats 2000000 in
theorem directory_any (p : ByteArray) (hp : p.size ≤ 100000) : Calls Tryz.prog 74 #[.pointer (some ⟨x.b, 0, none⟩), .string p] w fun e w' =>
    e = .returned (.tuple #[.int .i64 (dirM x.M p).1, .int .i64 (dirM x.M p).2]) ∧ Below w.heap.size w w' := by
  obtain ⟨R, hR⟩ : ∃ R, R = dirM x.M p := ⟨_, rfl⟩
  rw [← hR]
  have HLD := Lib.hid (lead_any h hr hk p hp)
  obtain ⟨n, e0⟩ : ∃ q : Int × Int, q = leadM x.M p := ⟨_, rfl⟩
  have HT := Lib.hid h
  have hlt := fun q => hr.leadT (p := p) q
  have HNB := Lib.hid (fun n t (q : findL x.M.l n = some t) => hr.numB q)
  have HK := Lib.hid hk
  unfold dirM at hR
  rw [← e0] at hR hlt HLD
  obtain ⟨n, e⟩ := n
  dsimp only at hR hlt HLD
  clear h hr hk e0
  by_cases hz : e = 0
  · subst hz
    obtain ⟨t, ht⟩ := hlt rfl
    obtain ⟨r, hrr, hrt⟩ := TrD.row ht
    have hdo : dirOf x.M n = t.dir := by unfold dirOf; rw [ht]
    rw [hdo] at hR
    have hnb := HNB.out n t ht
    have hkk := HK.out
    have HRR := Lib.hid hrr
    have HRT := Lib.hid hrt
    clear hdo hlt ht hrr hrt
    have HN : Hid (0 ≤ n ∧ n ≤ 4611686018427387904) := ⟨hnb.1, by omega⟩
    clear hnb hkk
    cases hd : t.dir with
    | false =>
      rw [hd] at hR
      have HR : Hid (R = (0, 11)) := hR
      clear hR
      go_enter Tryz.func74, Tryz.ntmps74
      go_wp2_with fail
      refine HLD.out.mono ?_
      rintro e w1 ⟨rfl, hb⟩
      have HB := Lib.hid hb
      have HT1 := Lib.hid (HT.out.keep hb)
      have t0 : w1.cell? ⟨x.b, 0, none⟩ = some (.map (some x.m)) := HT1.out.box.cell 0 _ rfl
      have d0 : w1.cell? ⟨r.p, 0, none⟩ = some (.bool false) := by rw [← hd, ← HRT.out]; exact (HT1.out.at_ HRR.out).1.cell 0 _ rfl
      have hlk := HT1.out.look HRR.out HN.out.1 HN.out.2
      clear hb hd
      go_wp2
      go_ret2
      exact ⟨by rw [HR.out]; rfl, HB.out⟩
    | true =>
      rw [hd] at hR
      have HR : Hid (R = (n, 0)) := hR
      clear hR
      go_enter Tryz.func74, Tryz.ntmps74
      go_wp2_with fail
      refine HLD.out.mono ?_
      rintro e w1 ⟨rfl, hb⟩
      have HB := Lib.hid hb
      have HT1 := Lib.hid (HT.out.keep hb)
      have t0 : w1.cell? ⟨x.b, 0, none⟩ = some (.map (some x.m)) := HT1.out.box.cell 0 _ rfl
      have d0 : w1.cell? ⟨r.p, 0, none⟩ = some (.bool true) := by rw [← hd, ← HRT.out]; exact (HT1.out.at_ HRR.out).1.cell 0 _ rfl
      have hlk := HT1.out.look HRR.out HN.out.1 HN.out.2
      clear hb hd
      go_wp2
      go_ret2
      exact ⟨by rw [HR.out]; rfl, HB.out⟩
  · have HR : Hid (R = (n, e)) := by
      rw [if_neg (fun q => hz q.1)] at hR
      exact hR
    have hq : (e == 0) = false := by simpa using hz
    clear hR hz hlt
    go_enter Tryz.func74, Tryz.ntmps74
    go_wp2_with fail
    refine HLD.out.mono ?_
    rintro e w1 ⟨rfl, hb⟩
    have HB := Lib.hid hb
    clear hb
    go_wp2
    go_ret2
    exact ⟨by rw [HR.out]; rfl, HB.out⟩
end
end Go.Proofs.YteimpebfenpifaaGreatDoor
