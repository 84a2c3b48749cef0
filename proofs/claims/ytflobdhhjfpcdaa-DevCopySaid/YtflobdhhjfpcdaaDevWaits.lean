/-
  Contracts of package dev: Waits.
-/
import Derived.Test.YtflobdhhjfpcdaaDevOps
import Derived.Test.YtflobdhhjfpcdaaOwnRows
import Derived.Deep.OwnRows
import Derived.StillTailTactics
namespace Go.Proofs.Ytflobdhhjfpcdaa
open Go.RowKit Go.ChangeShapes Go.WideShapes Go.ChangeAt

theorem waits_nil (w : World) : Calls Try.prog 10 #[.pointer none] w fun e w' => e = .returned (.slice none 0 0) ∧ w = w' := by
  go_enter Try.func10, Try.ntmps10
  go_wp2
  go_ret
  exact ⟨rfl, rfl⟩

theorem flat_set2 : ∀ (l : List (Int × Int)) (i : Nat) (x : Int × Int), ((l.flatMap PrV).set (i * 2) (.int .i64 x.1)).set (i * 2 + 1) (.int .i64 x.2) = (l.set i x).flatMap PrV
  | [], i, x => by simp
  | y :: r, 0, x => by simp [PrV]
  | y :: r, i + 1, x => by
    have h := flat_set2 r i x
    rw [List.set_cons_succ, List.flatMap_cons, List.flatMap_cons, ← h]
    rw [show (i + 1) * 2 = i * 2 + 2 by omega, show i * 2 + 2 + 1 = i * 2 + 1 + 2 by omega]
    simp [PrV]
theorem Prs.set {w : World} {base g cap : Nat} {l : List (Int × Int)} (h : Prs w base (.slice (some ⟨g, 0, none⟩) l.length cap) l) (i : Nat) (x : Int × Int) :
    Prs ((w.setCell ⟨g, i * 2, none⟩ (.int .i64 x.1)).setCell ⟨g, i * 2 + 1, none⟩ (.int .i64 x.2)) base (.slice (some ⟨g, 0, none⟩) (l.set i x).length cap) (l.set i x) := by
  have h1 := (World.ownsRow.stored h (i * 2) (.int .i64 x.1)).1
  have h2 := (World.ownsRow.stored h1 (i * 2 + 1) (.int .i64 x.2)).1
  unfold Prs
  rw [flat_set2] at h2
  simpa using h2
theorem Prs.get {w : World} {base g cap : Nat} {l : List (Int × Int)} (h : Prs w base (.slice (some ⟨g, 0, none⟩) l.length cap) l) (i : Nat) (x : Int × Int) (hx : l[i]? = some x) :
    w.cell? ⟨g, i * 2, none⟩ = some (.int .i64 x.1) ∧ w.cell? ⟨g, i * 2 + 1, none⟩ = some (.int .i64 x.2) := by
  have hi : i < l.length := (List.getElem?_eq_some_iff.1 hx).1
  refine ⟨?_, ?_⟩
  · have := flat_get PrV 2 (fun _ => rfl) l i x hx 0 (by decide)
    rw [World.ownsRow.cellAt h (i * 2) (by omega)]; exact this
  · have := flat_get PrV 2 (fun _ => rfl) l i x hx 1 (by decide)
    rw [World.ownsRow.cellAt h (i * 2 + 1) (by omega)]; exact this
theorem flat_rep : ∀ n : Nat, (madeCells #[Value.int .i64 0, Value.int .i64 0] (n * 2)).toList = (List.replicate n ((0 : Int), (0 : Int))).flatMap PrV := by
  intro n
  apply List.ext_getElem?
  intro i
  by_cases hi : i < n * 2
  · have h1 : i / 2 < n := by omega
    have h2 := flat_get PrV 2 (fun _ => rfl) (List.replicate n ((0 : Int), (0 : Int))) (i / 2) (0, 0) (by rw [List.getElem?_replicate, if_pos h1]) (i % 2) (by omega)
    rw [show i / 2 * 2 + i % 2 = i by omega] at h2
    rw [h2]
    have h3 : i % 2 = 0 ∨ i % 2 = 1 := by omega
    rcases h3 with e | e <;> simp [madeCells, hi, PrV, e]
  · rw [List.getElem?_eq_none (by simp [madeCells]; omega), List.getElem?_eq_none (by rw [flat_len PrV 2 (fun _ => rfl)]; simp; omega)]

/-- The Locs of the first k writes, and Locs of zeros behind them. -/
def locK (l : List WrD) (k : Nat) : List (Int × Int) := (l.take k).map (·.1) ++ List.replicate (l.length - k) (0, 0)
theorem locK_len (l : List WrD) (k : Nat) (hk : k ≤ l.length) : (locK l k).length = l.length := by simp [locK]; omega
theorem locK_next (l : List WrD) (k : Nat) (hk : k < l.length) : (locK l k).set k l[k].1 = locK l (k + 1) := by
  unfold locK
  rw [List.take_succ_eq_append_getElem hk, List.map_append, List.append_assoc]
  rw [List.set_append_right _ _ (by simp; omega)]
  congr 1
  rw [show l.length - k = (l.length - (k + 1)) + 1 by omega, List.replicate_succ]
  simp [Nat.min_eq_left (Nat.le_of_lt hk)]

set_option maxRecDepth 100000 in
set_option maxHeartbeats 1000000 in
theorem waits_any (p : DevP) (d : DevD) (w : World) (h : DevAt w p d) (hlen : d.waits.length ≤ 100000) : Calls Try.prog 10 #[.pointer (some ⟨p.b, 0, none⟩)] w fun e w' =>
    ∃ v, e = .returned v ∧ Prs w' w.heap.size v (d.waits.map (·.1)) ∧ Below w.heap.size w w' := by
  have c6 : w.cell? ⟨p.b, 6, none⟩ = some p.wv := h.box.cell 6 _ rfl
  obtain ⟨a, cap, hav, hag⟩ := Wrs.form h.wt
  rw [hav] at c6
  obtain ⟨i0, hi, hz0, hz1, hz2⟩ := info_parts infoLoc
  have hmk := fun W => run_make (P := Try.prog) W 35 29 i0 (.agg #[.int .i64 0, .int .i64 0]) Try.underlying35 hi hz0 .i64 .i64 d.waits.length d.waits.length (by omega) (by omega) (by rw [hz2]; omega) (by omega)
  rw [hz1] at hmk
  simp only [Int.toNat_natCast, Value.cells] at hmk
  have H := Lib.hid h
  have HAV := Lib.hid hav
  have HA := Lib.hid hag
  have c6A : ∀ o : Obj, (w.alloc o).cell? ⟨p.b, 6, none⟩ = some (.slice a d.waits.length cap) := fun o => by have := (h.box.alloc o).cell 6 _ rfl; rw [this, hav]; rfl
  have hR : Prs (w.alloc (.cells (madeCells #[Value.int .i64 0, Value.int .i64 0] (d.waits.length * 2)) 29)) w.heap.size (.slice (some ⟨w.heap.size, 0, none⟩) (locK d.waits 0).length d.waits.length) (locK d.waits 0) := by
    have h1 := World.ownsRow_lit (e := 29) (size := 2) w (madeCells #[Value.int .i64 0, Value.int .i64 0] (d.waits.length * 2)) d.waits.length (Nat.le_refl _) (by unfold maxLen; omega) (by simp [madeCells])
    rw [flat_rep] at h1
    unfold Prs
    rw [locK_len _ _ (Nat.zero_le _)]
    have h2 : locK d.waits 0 = List.replicate d.waits.length (0, 0) := by simp [locK]
    rw [h2]
    exact h1
  have HR := Lib.hid hR
  have HB0 : Hid (Below w.heap.size w (w.alloc (.cells (madeCells #[Value.int .i64 0, Value.int .i64 0] (d.waits.length * 2)) 29))) := (Below.refl _ _).alloc (Nat.le_refl _) _
  have HWT := Lib.hid h.wt
  clear h hav hag hR hi hz0 hz1 hz2
  go_enter Try.func10, Try.ntmps10
  go_wp2_with fail
  clear c6 c6A hmk
  go_loopw [19] (fun i wr => ∃ k : Nat, k ≤ d.waits.length ∧ i = .int .i64 k ∧ Hid (Prs wr w.heap.size (.slice (some ⟨w.heap.size, 0, none⟩) (locK d.waits k).length d.waits.length) (locK d.waits k)) ∧ Hid (Below w.heap.size w wr)) (fun i _ => d.waits.length - (intOf i).toNat)
  case atStart => exact ⟨0, Nat.zero_le _, rfl, HR, HB0⟩
  case round =>
    clear HR HB0
    obtain ⟨k, hk, rfl, HR, HB⟩ := hrel
    by_cases hlt : k < d.waits.length
    · obtain ⟨g, rfl⟩ := HA.out (by omega)
      have hW : Wrs wr (.slice (some ⟨g, 0, none⟩) d.waits.length cap) d.waits := by
        have h1 := Wrs.below HWT.out HB.out (Nat.le_refl _)
        rwa [HAV.out] at h1
      obtain ⟨q0, q1, q2⟩ := hW.get k d.waits[k] (List.getElem?_eq_getElem hlt)
      have hRl := locK_len d.waits k hk
      obtain ⟨r0, r1⟩ := HR.out.get k (locK d.waits k)[k] (List.getElem?_eq_getElem (by omega))
      have hgs := ownsRow_lt HR.out w.heap.size rfl
      have f0 := World.ownsRow.frozenAt HR.out (k * 2)
      have f1 := World.ownsRow.frozenAt HR.out (k * 2 + 1)
      have HRS : Hid (∀ o : Obj, Prs (((wr.setCell ⟨w.heap.size, k * 2, none⟩ (.int .i64 d.waits[k].1.1)).setCell ⟨w.heap.size, k * 2 + 1, none⟩ (.int .i64 d.waits[k].1.2)).alloc o) w.heap.size (.slice (some ⟨w.heap.size, 0, none⟩) (locK d.waits (k + 1)).length d.waits.length) (locK d.waits (k + 1))) := fun o => by
        have h1 := HR.out.set k d.waits[k].1
        rw [locK_next _ _ hlt] at h1
        exact h1.alloc o
      have hbx := fun o : Obj => (Below.refl wr.heap.size wr).alloc (Nat.le_refl _) o
      have HBS : Hid (∀ (o : Obj) u v, Below w.heap.size w (((wr.setCell ⟨w.heap.size, k * 2, none⟩ u).setCell ⟨w.heap.size, k * 2 + 1, none⟩ v).alloc o)) := fun o u v => ((HB.out.setCell (Nat.le_refl _) _).setCell (Nat.le_refl _) _).alloc (by show _ ≤ ((wr.setCell _ _).setCell _ _).heap.size; simp [World.setCell]; exact HB.out.size) o
      have a0 : ∀ o : Obj, (wr.alloc o).cell? ⟨w.heap.size, k * 2, none⟩ = some (.int .i64 (locK d.waits k)[k].1) := fun o => by rw [(hbx o).cell (p := ⟨w.heap.size, k * 2, none⟩) hgs]; exact r0
      have b0 : ∀ o : Obj, (wr.alloc o).frozen? ⟨w.heap.size, k * 2, none⟩ = false := fun o => by rw [(hbx o).frozen (p := ⟨w.heap.size, k * 2, none⟩) hgs]; exact f0
      have hby := fun (o : Obj) (u : Value) => (Below.refl (wr.setCell ⟨w.heap.size, k * 2, none⟩ u).heap.size (wr.setCell ⟨w.heap.size, k * 2, none⟩ u)).alloc (Nat.le_refl _) o
      have hgt : ∀ u, w.heap.size < (wr.setCell ⟨w.heap.size, k * 2, none⟩ u).heap.size := fun u => by simp [World.setCell]; exact hgs
      have a1 : ∀ (o : Obj) (u : Value), ((wr.setCell ⟨w.heap.size, k * 2, none⟩ u).alloc o).cell? ⟨w.heap.size, k * 2 + 1, none⟩ = some (.int .i64 (locK d.waits k)[k].2) := fun o u => by
        rw [(hby o u).cell (p := ⟨w.heap.size, k * 2 + 1, none⟩) (hgt u), World.cell?_setCell_other _ _ _ _ (by simp)]; exact r1
      have b1 : ∀ (o : Obj) (u : Value), ((wr.setCell ⟨w.heap.size, k * 2, none⟩ u).alloc o).frozen? ⟨w.heap.size, k * 2 + 1, none⟩ = false := fun o u => by
        rw [(hby o u).frozen (p := ⟨w.heap.size, k * 2 + 1, none⟩) (hgt u)]
        simpa using f1
      have hkk : (0 : Int) ≤ (k : Int) := by omega
      have hkl : (k : Int) < (d.waits.length : Int) := by omega
      generalize d.waits[k] = x at *
      generalize (locK d.waits k)[k] = y at *
      clear hW hRl hbx hby hgt r0 r1 f0 f1
      go_wp2
      go_roundw
      case rel => exact ⟨k + 1, by omega, by go_num, HRS.out _, HBS.out _ _ _⟩
      case measure => simp [intOf]; omega
    · have hkl : k = d.waits.length := by omega
      subst hkl
      have HE : Hid (locK d.waits d.waits.length = d.waits.map (·.1)) := by show _ = _; simp [locK]
      rw [HE.out] at HR
      go_wp2
      go_ret
      refine ⟨_, rfl, ?_, HB.out⟩
      have := HR.out
      simpa using this
end Go.Proofs.Ytflobdhhjfpcdaa
