/-
  The reference's cache: Drop, room.
-/
import Derived.Test.YtnfdcjchobonaaaArcR
import Derived.Test.YtnfdcjchobonaaaHeldM
import Derived.Test.YtnfdcjchobonaaaArcE
namespace Go.Proofs.Ytnfdcjchobonaaa
open Go.RowKit Go.ChangeShapes Go.WideShapes Go.ChangeAt

theorem ref_put {b : Nat} {d : ArcD} {F : List Nat} {w W w1 : World} (h : Tod (RefF b d) F w W) {i j : Nat} (hi : InA i) (hj : j = i - 2) (hb : Below W.heap.size W w1) {x : Value} {l : List ByteArray} (hk : Ks w1 W.heap.size x l) :
    Tod (RefF b (d.put i l)) F w (w1.setCell ⟨b, j, none⟩ x) := by
  subst hj
  obtain ⟨F1, ⟨v, hA, rfl⟩, h2, h3⟩ := h
  exact Tod.seq h2 h3 (hA.put hi hb hk)
theorem ref_store {b : Nat} {d : ArcD} {F : List Nat} {w W w1 : World} (h : Tod (RefF b d) F w W) (hb : Below W.heap.size W w1) {j : Nat} (hj : j < 6) : ∃ u, w1.cell? ⟨b, j, none⟩ = some u ∧ w1.frozen? ⟨b, j, none⟩ = false := by
  obtain ⟨F1, ⟨v, hA, rfl⟩, h2, h3⟩ := h
  have h1 := (hA.keep hb).box
  exact ⟨(rcells d.c d.t v)[j]'(by simpa [rcells] using hj), h1.cell j _ (by rw [Array.getElem?_eq_getElem]), h1.free j⟩
theorem ref_at {b : Nat} {d : ArcD} {F : List Nat} {w W : World} (h : Tod (RefF b d) F w W) : ∃ v, RefAt W b v d := by
  obtain ⟨F1, ⟨v, hA, rfl⟩, h2, h3⟩ := h
  exact ⟨v, hA⟩
theorem ref_same {b : Nat} {d : ArcD} {F : List Nat} {w : World} (h : RefF b d F w) : Tod (RefF b d) F w w := Tod.same (fixed_ref b d) h (Below.refl _ _)
theorem ref_keep {b : Nat} {d : ArcD} {F : List Nat} {w W w1 : World} (h : Tod (RefF b d) F w W) (hb : Below W.heap.size W w1) : Tod (RefF b d) F w w1 := by
  obtain ⟨F1, h1, h2, h3⟩ := h
  exact Tod.seq h2 h3 (Tod.same (fixed_ref b d) h1 hb)
theorem put_at (d : ArcD) (i j : Nat) (x : List ByteArray) : (d.put i x).l j = if j = i then x else d.l j := rfl

def rdrop (d : ArcD) (k : ByteArray) : ArcD := (((d.put 2 (dropK (d.l 2) k)).put 3 (dropK (d.l 3) k)).put 4 (dropK (d.l 4) k)).put 5 (dropK (d.l 5) k)

set_option maxRecDepth 100000 in
set_option maxHeartbeats 2000000 in
theorem rdrop_any (b : Nat) (F : List Nat) (d : ArcD) (k : ByteArray) (w : World) (h : RefF b d F w) (hlen : d.len ≤ 9000) (hv : InvA d) :
    Calls Try.prog 15 #[.pointer (some ⟨b, 0, none⟩), .string k] w fun e w' => e = .returned (.bool (hasA d 2 k || hasA d 3 k)) ∧ Tod (RefF b (rdrop d k)) F w w' := by
  have l2 := d.le_len in2
  have l3 := d.le_len in3
  have l4 := d.le_len in4
  have l5 := d.le_len in5
  have hone := hv.one k
  unfold cnt at hone
  have HT := Lib.hid (ref_same h)
  have HH : Hid (Calls Try.prog 18 #[.pointer (some ⟨b, 0, none⟩), .string k] w fun e w' => e = .returned (.bool (hasA d 2 k || hasA d 3 k)) ∧ w = w') := by
    obtain ⟨v, hA, _⟩ := h
    exact rhas b v d k w hA (by omega)
  clear h hv
  generalize (hasA d 2 k || hasA d 3 k) = hb0 at *
  go_enter Try.func15, Try.ntmps15
  go_wp2_with fail
  refine HH.out.mono ?_
  rintro e w0 ⟨rfl, rfl⟩
  obtain ⟨v0, hA⟩ := ref_at HT.out
  obtain ⟨a, c, hc⟩ := hA.cells
  have q0 := hc.c2
  have HW := Lib.hid (rwithout (a 2) (c 2) (d.l 2) k _ (hc.s 2 in2) (by omega) (by omega))
  clear hc hA
  go_wp2_with fail
  refine HW.out.mono ?_
  rintro e w1 ⟨xv, rfl, hk, hb⟩
  obtain ⟨xa, xc, rfl, _⟩ := hk.view
  obtain ⟨u1, g1, g2⟩ := ref_store HT.out hb (j := 0) (by decide)
  have HT := Lib.hid (ref_put HT.out in2 (j := 0) rfl hb hk)
  clear hk hb HW q0
  have HT : Hid (Tod (RefF b (d.put 2 (dropK (d.l 2) k))) F w _) := HT
  obtain ⟨v0, hA⟩ := ref_at HT.out
  obtain ⟨a, c, hc⟩ := hA.cells
  have q0 := hc.c3
  have HW := Lib.hid (rwithout (a 3) (c 3) (d.l 3) k _ (hc.s 3 in3) (by omega) (by omega))
  clear hc hA
  go_wp2_with fail
  refine HW.out.mono ?_
  rintro e w1 ⟨xv, rfl, hk, hb⟩
  obtain ⟨xa, xc, rfl, _⟩ := hk.view
  obtain ⟨u1, g1, g2⟩ := ref_store HT.out hb (j := 1) (by decide)
  have HT := Lib.hid (ref_put HT.out in3 (j := 1) rfl hb hk)
  clear hk hb HW q0
  obtain ⟨v0, hA⟩ := ref_at HT.out
  obtain ⟨a, c, hc⟩ := hA.cells
  have q0 := hc.c4
  have HW := Lib.hid (rwithout (a 4) (c 4) (d.l 4) k _ (hc.s 4 in4) (by omega) (by omega))
  clear hc hA
  go_wp2_with fail
  refine HW.out.mono ?_
  rintro e w1 ⟨xv, rfl, hk, hb⟩
  obtain ⟨xa, xc, rfl, _⟩ := hk.view
  obtain ⟨u1, g1, g2⟩ := ref_store HT.out hb (j := 2) (by decide)
  have HT := Lib.hid (ref_put HT.out in4 (j := 2) rfl hb hk)
  clear hk hb HW q0
  obtain ⟨v0, hA⟩ := ref_at HT.out
  obtain ⟨a, c, hc⟩ := hA.cells
  have q0 := hc.c5
  have HW := Lib.hid (rwithout (a 5) (c 5) (d.l 5) k _ (hc.s 5 in5) (by omega) (by omega))
  clear hc hA
  go_wp2_with fail
  refine HW.out.mono ?_
  rintro e w1 ⟨xv, rfl, hk, hb⟩
  obtain ⟨xa, xc, rfl, _⟩ := hk.view
  obtain ⟨u1, g1, g2⟩ := ref_store HT.out hb (j := 3) (by decide)
  have HT := Lib.hid (ref_put HT.out in5 (j := 3) rfl hb hk)
  clear hk hb HW q0
  go_wp2
  go_ret
  exact ⟨rfl, HT.out⟩
end Go.Proofs.Ytnfdcjchobonaaa
