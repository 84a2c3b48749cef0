/-
  Texts put together: ClogW, ClogX, ClogY.
-/
import Derived.Test.YtljjcchdhnficaaDoorClogV
import Derived.Lib.SlKeysI
import Derived.Test.YtljjcchdhnficaaDoorMg4
namespace Go.Proofs.YtljjcchdhnficaaDoor
open Go.RowKit Go.ChangeShapes Go.WideShapes Go.ChangeAt

def oneR (L : List (Int × List CgE)) (t : Nat) : List CgE := if 0 ≤ (newR L t).1 then [(newR L t).2] else []
/-- What the places below k give. -/
def mrK (L : List (Int × List CgE)) (k : Nat) : List CgE := (List.range k).flatMap (oneR L)
theorem mrK_succ (L : List (Int × List CgE)) (k : Nat) : mrK L (k + 1) = mrK L k ++ oneR L k := by
  unfold mrK
  rw [List.range_succ, List.flatMap_append]
  simp only [List.flatMap_cons, List.flatMap_nil, List.append_nil]
theorem mrK_len (L : List (Int × List CgE)) : ∀ k, (mrK L k).length ≤ k
  | 0 => Nat.le_refl _
  | k + 1 => by
    rw [mrK_succ, List.length_append]
    have := mrK_len L k
    have h2 : (oneR L k).length ≤ 1 := by
      unfold oneR
      split
      · exact Nat.le_refl _
      · exact Nat.zero_le _
    omega

set_option maxRecDepth 100000 in
set_option maxHeartbeats 4000000 in
theorem crmerge_any (a : Option Addr) (cap : Nat) (l : List BkD) (w : World) (h : SlBk w a l) (hl : l.length ≤ 100) (hE : ∀ x ∈ l, x.ents.length ≤ 100) :
    Calls Tryd.prog 21 #[.slice a l.length cap] w fun e w' => ∃ v, e = .returned v ∧ Cgs 53 w' w.heap.size v (mrK (l.map bkM) 512) ∧ Below w.heap.size w w' := by
  have H := Lib.hid (fun (t : Int) W (h : SlBk W a l) => cnewest_any a cap l t W h hl hE)
  have HS := Lib.hid h
  obtain ⟨L, hL⟩ : ∃ L, L = l.map bkM := ⟨_, rfl⟩
  rw [← hL] at H ⊢
  clear h hl hE hL
  go_enter Tryd.func21, Tryd.ntmps21
  go_wp2
  go_loopw [3, 4] (fun o i wr => ∃ (k : Nat) (v : Value), k ≤ 512 ∧ i = .int .i64 k ∧ o = v ∧ Hid (Cgs 53 wr w.heap.size v (mrK L k)) ∧ Hid (Below w.heap.size w wr)) (fun _ i _ => 512 - (RowKit.intOf i).toNat)
  case atStart => exact ⟨0, _, Nat.zero_le _, rfl, rfl, Cgs.nil _ _ _, Below.refl _ _⟩
  case round =>
    obtain ⟨k, v, hk, rfl, rfl, HP, HB⟩ := hrel
    by_cases hlt : k < 512
    · have hk0 : (0 : Int) ≤ (k : Int) := by omega
      have hkl : (k : Int) < 512 := by omega
      have hkd : decide ((k : Int) < 512) = true := decide_eq_true hkl
      have HLT := Lib.hid hlt
      have HMS := Lib.hid (mrK_succ L k)
      have HML := Lib.hid (mrK_len L k)
      have HQ := Lib.hid (H.out k wr (HS.out.keep HB.out))
      have HON : Hid (oneR L k = if 0 ≤ (newR L k).1 then [(newR L k).2] else []) := rfl
      clear hlt
      generalize mrK L k = p at *
      generalize newR L k = s at *
      obtain ⟨n, x⟩ := s
      go_wp2_with fail
      refine HQ.out.mono ?_
      rintro e w1 ⟨rfl, hb⟩
      clear HQ
      obtain ⟨xk, xs, xn, xp⟩ := x
      have hx := (Below.refl w1.heap.size w1).alloc (Nat.le_refl _) (.cells #[.string xk, .string xs, .int .i64 xn, .int .i64 xp] 53)
      have BX := Lib.hid (Box.new w1 53 #[.string xk, .string xs, .int .i64 xn, .int .i64 xp])
      have hbx := hb.trans (hx.mono hb.size)
      have HP2 := Lib.hid (HP.out.keep hbx)
      have HB2 := Lib.hid (HB.out.trans (hbx.mono HB.out.size))
      clear hb hx hbx HP HB
      by_cases hn : 0 ≤ n
      · have hd : decide (0 ≤ n) = true := decide_eq_true hn
        rw [if_pos hn] at HON
        rw [HON.out] at HMS
        clear hn HON
        have c0 := BX.out.cell 0 _ rfl
        have c1 := BX.out.cell 1 _ rfl
        have c2 := BX.out.cell 2 _ rfl
        have c3 := BX.out.cell 3 _ rfl
        obtain ⟨w2, hw2⟩ : ∃ w2, w2 = w1.alloc (.cells #[.string xk, .string xs, .int .i64 xn, .int .i64 xp] 53) := ⟨_, rfl⟩
        have hz := (Below.refl w2.heap.size w2).alloc (Nat.le_refl _) (.cells #[.string xk, .string xs, .int .i64 xn, .int .i64 xp] 53)
        have EB := Lib.hid (Box.new w2 53 #[.string xk, .string xs, .int .i64 xn, .int .i64 xp])
        rw [← hw2] at HP2 HB2
        have HP3 := Lib.hid (HP2.out.keep hz)
        have HB3 := Lib.hid (HB2.out.trans (hz.mono HB2.out.size))
        clear hz HP2 HB2 BX
        rw [show w2.heap.size = w1.heap.size + 1 by rw [hw2, size_alloc]] at EB
        subst hw2
        go_wp2_with (with_reducible refine wp_cgs_push Tryd.underlying22 four_R _ rfl (.tmp 18) (.tmp 20) rfl w.heap.size _ p rfl ?a1 (w1.heap.size + 1) 1 ⟨xk, xs, xn, xp⟩ ?a2 ?a3 ?a4 ?a5 ?a6)
        case a1 => exact HP3.out
        try (case a2 => rfl)
        case a3 => intro i u hi; exact EB.out.cell i u (by simpa [cgL] using hi)
        case a4 => have := HML.out; have := HLT.out; omega
        case a5 => exact HB3.out.size
        intro v' wA hpv hgr _
        rw [← HMS.out] at hpv
        have HP4 := Lib.hid hpv
        have HB4 := Lib.hid (below_cgs HB3.out hgr HP3.out HB3.out.size)
        clear hpv hgr HP3 HB3 EB c0 c1 c2 c3
        go_wp2
        go_roundw
        case rel => exact ⟨k + 1, _, HLT.out, by go_num, rfl, HP4, HB4⟩
        case measure => have := HLT.out; simp [RowKit.intOf]; omega
      · have hd : decide (0 ≤ n) = false := decide_eq_false hn
        rw [if_neg hn] at HON
        rw [HON.out, List.append_nil] at HMS
        clear hn HON
        rw [← HMS.out] at HP2
        go_wp2
        go_roundw
        case rel => exact ⟨k + 1, _, HLT.out, by go_num, rfl, HP2, HB2⟩
        case measure => have := HLT.out; simp [RowKit.intOf]; omega
    · obtain rfl : k = 512 := by omega
      go_wp2
      go_ret
      exact ⟨_, rfl, HP.out, HB.out⟩
end Go.Proofs.YtljjcchdhnficaaDoor

namespace Go.Proofs.YtljjcchdhnficaaDoor
open Go.RowKit Go.Maps Go.Sort Go.Shelf

def Rl (M : List DtD) (s : Int × CgE) (t : Int) : Prop := (findD M t = none ∧ s = (-1, zeroC)) ∨ (∃ x q, findD M t = some (x, q) ∧ s = (q, x) ∧ 0 ≤ q)
theorem Rl.step {M : List DtD} {s : Int × CgE} {t q : Int} {x : CgE} (h : Rl M s t) (hq : 0 ≤ q) : Rl (stepE q M x) (stN q t s x) t := by
  by_cases hp : x.pos = t
  · subst hp
    rcases h with ⟨h1, rfl⟩ | ⟨y, q', h1, rfl, h2⟩
    · have e1 : stepE q M x = putD M x.pos (x, q) := by unfold stepE freshE; rw [h1]; rfl
      have e2 : stN q x.pos (-1, zeroC) x = (q, x) := if_pos ⟨rfl, by show (-1 : Int) ≤ q; omega⟩
      rw [e1, e2]
      exact .inr ⟨x, q, dput_same _ _ _, rfl, hq⟩
    · by_cases hle : q' ≤ q
      · have e1 : stepE q M x = putD M x.pos (x, q) := by unfold stepE freshE; rw [h1, if_pos (by simpa using hle)]
        have e2 : stN q x.pos (q', y) x = (q, x) := if_pos ⟨rfl, hle⟩
        rw [e1, e2]
        exact .inr ⟨x, q, dput_same _ _ _, rfl, hq⟩
      · have e1 : stepE q M x = M := by unfold stepE freshE; rw [h1, if_neg (by simpa using hle)]
        have e2 : stN q x.pos (q', y) x = (q', y) := if_neg (fun h => hle h.2)
        rw [e1, e2]
        exact .inr ⟨y, q', h1, rfl, h2⟩
  · have e2 : stN q t s x = s := if_neg (fun h => hp h.1)
    have e1 : findD (stepE q M x) t = findD M t := by
      unfold stepE
      split
      · exact dput_other _ (fun e => hp e.symm) _
      · rfl
    rw [e2]
    unfold Rl
    rw [e1]
    exact h
theorem Rl.fold {q t : Int} (hq : 0 ≤ q) : ∀ (l : List CgE) {M : List DtD} {s : Int × CgE}, Rl M s t → Rl (l.foldl (stepE q) M) (l.foldl (stN q t) s) t
  | [], _, _, h => h
  | x :: r, _, _, h => Rl.fold hq r (h.step (x := x) hq)
theorem Rl.block {M : List DtD} {s : Int × CgE} {t : Int} (h : Rl M s t) (b : Int × List CgE) : Rl (stepB M b) (blN t s b) t := by
  unfold stepB blN
  by_cases hc : chkC b.1 b.2 = 0
  · rw [if_pos hc, if_pos hc]
    exact Rl.fold (chkC_zero hc).1 _ h
  · rw [if_neg hc, if_neg hc]
    exact h
theorem Rl.all {t : Int} : ∀ (L : List (Int × List CgE)) {M : List DtD} {s : Int × CgE}, Rl M s t → Rl (L.foldl stepB M) (L.foldl (blN t) s) t
  | [], _, _, h => h
  | b :: r, _, _, h => Rl.all r (h.block b)
theorem rl_new (L : List (Int × List CgE)) (t : Int) : Rl (newD L) (newR L t) t := Rl.all L (.inl ⟨rfl, rfl⟩)
theorem oneR_eq (L : List (Int × List CgE)) (t : Nat) : oneR L t = if (findD (newD L) t).isSome = true then [pickD (newD L) t] else [] := by
  unfold oneR pickD
  rcases rl_new L t with ⟨h1, h2⟩ | ⟨x, q, h1, h2, h3⟩
  · rw [h1, h2, if_neg (by show ¬ (0 : Int) ≤ -1; omega)]
    rfl
  · rw [h1, h2, if_pos h3]
    rfl
theorem filter_flat (p : Nat → Bool) (f : Int → CgE) : ∀ r : List Nat, ((r.filter p).map Int.ofNat).map f = r.flatMap (fun n => if p n = true then [f n] else [])
  | [] => rfl
  | a :: r => by
    rw [List.flatMap_cons, ← filter_flat p f r, List.filter_cons]
    split
    · rfl
    · rfl
set_option maxRecDepth 100000 in
theorem keysD_range {M : List DtD} (h : GoodD M) : keysD M = ((List.range 512).filter (fun n : Nat => (findD M (n : Int)).isSome)).map Int.ofNat := by
  obtain ⟨hn, ha⟩ := h
  have hmem : ∀ k : Int, k ∈ M.map (·.1) ↔ (findD M k).isSome = true := fun k => by
    constructor
    · intro hk
      obtain ⟨y, hy, rfl⟩ := List.mem_map.1 hk
      rw [dfind_of_mem hn hy]
      rfl
    · intro hk
      cases e : findD M k with
      | none => rw [e] at hk; cases hk
      | some v => exact List.mem_map.2 ⟨_, dfind_mem e, rfl⟩
  have hp : (M.map (·.1)).Perm (((List.range 512).filter (fun n : Nat => (findD M (n : Int)).isSome)).map Int.ofNat) := by
    refine (List.perm_ext_iff_of_nodup ?_ ?_).2 ?_
    · exact List.pairwise_map.2 hn
    · refine List.pairwise_map.2 (List.Pairwise.imp (fun h e => h (Int.ofNat.inj e)) ((List.nodup_range (n := 512)).filter _))
    · intro k
      rw [hmem]
      constructor
      · intro hk
        cases e : findD M k with
        | none => rw [e] at hk; cases hk
        | some v =>
          obtain ⟨hm, hkp⟩ := ha _ (dfind_mem e)
          obtain ⟨_, _, _, _, _, h6, h7⟩ := hm
          dsimp only at hkp h6 h7
          refine List.mem_map.2 ⟨k.toNat, List.mem_filter.2 ⟨List.mem_range.2 (by omega), ?_⟩, by show ((k.toNat : Nat) : Int) = k; omega⟩
          rw [show ((k.toNat : Nat) : Int) = k by omega, e]
          rfl
      · intro hk
        obtain ⟨n, hn, rfl⟩ := List.mem_map.1 hk
        exact (List.mem_filter.1 hn).2
  have h1 : keysD M = (((List.range 512).filter (fun n : Nat => (findD M (n : Int)).isSome)).map Int.ofNat).mergeSort (fun x y => decide (x ≤ y)) := mergeSort_of_perm_i hp
  rw [h1]
  refine List.mergeSort_of_pairwise (List.pairwise_map.2 ?_)
  refine List.Pairwise.imp (fun {a b} h => ?_) (List.Pairwise.filter _ List.pairwise_lt_range)
  rw [decide_eq_true_eq]
  show ((a : Nat) : Int) ≤ (b : Nat)
  omega
theorem merge_same (L : List (Int × List CgE)) : mrK L 512 = mergeL L := by
  rw [mergeL_eq, keysD_range (good_new L), filter_flat]
  unfold mrK
  congr 1
  funext n
  exact oneR_eq L n
end Go.Proofs.YtljjcchdhnficaaDoor

namespace Go.Proofs.YtljjcchdhnficaaDoor
open Go.RowKit Go.ChangeShapes Go.WideShapes Go.ChangeAt

def bkL (x : BkD) : List Value := [.int .i64 x.seq, .slice x.a x.ents.length x.cap]
theorem two_B : (Tryd.prog.info? 32).map (fun i => (i.zero, i.size, i.bytes)) = some (some (.agg #[.int .i64 0, .slice none 0 0]), 2, 32) := by kernel_rfl
/-- The value v is a slice of the call's own that holds the blocks l; their entries lie anywhere. -/
structure Bks (w : World) (base : Nat) (v : Value) (l : List BkD) : Prop where
  row : w.ownsRow base 32 2 v l.length (l.flatMap bkL)
  ents : ∀ x ∈ l, SlC w x.a x.ents
theorem Bks.nil (w : World) (base : Nat) : Bks w base (.slice none 0 0) [] := ⟨World.ownsRow_nil _ _ _ _, fun _ h => by cases h⟩
theorem Bks.keep {w w' : World} {base : Nat} {v : Value} {l : List BkD} (h : Bks w base v l) (hb : Below w.heap.size w w') : Bks w' base v l :=
  ⟨ownsRow_of h.row fun k _ hlt => hb.block k hlt, fun x hx => (h.ents x hx).keep hb⟩
theorem Bks.view {w : World} {base : Nat} {v : Value} {l : List BkD} (h : Bks w base v l) : ∃ a cap, v = .slice a l.length cap ∧ SlBk w a l := by
  have h' := h.row
  rcases h.row.2 with ⟨rfl, h0⟩ | ⟨g, cap, cur, rfl, hg, hh, _⟩
  · have : l = [] := List.eq_nil_of_length_eq_zero h0
    subst this
    exact ⟨none, 0, rfl, fun h => absurd rfl h⟩
  · refine ⟨some ⟨g, 0, none⟩, cap, rfl, fun _ => ⟨g, 0, rfl, lt_of_block hh, fun i x hx => ?_⟩⟩
    have hi : i < l.length := (List.getElem?_eq_some_iff.1 hx).1
    have hc : ∀ j u, j < 2 → (bkL x)[j]? = some u → w.cell? ⟨g, 0 + i * 2 + j, none⟩ = some u := fun j u hj hu => by
      have h0 := flat_get bkL 2 (fun _ => rfl) l i x hx j hj
      rw [Nat.zero_add, World.ownsRow.cellAt h' (i * 2 + j) (by omega), h0]
      exact hu
    exact ⟨hc 0 _ (by decide) rfl, hc 1 _ (by decide) rfl, h.ents x (List.mem_of_getElem? hx)⟩
theorem wp_bks_push {t : TypeId} (ht : Tryd.prog.underlying t = some (.slice 32)) {ops : Array Oper} {rest : List Oper} {o : Oper} {a : Act} {Q : Exit → Act → World → Prop} (W : World) (hgd : o.guard = none) (s x : Operand)
    (ho : o.op = .call { callee := .builtin .append, args := #[s, x], argTypes := #[t, t] })
    (base : Nat) (v : Value) (l : List BkD) (hs : a.eval s = v) (hb : Bks W base v l)
    (g c : Nat) (p : BkD) (hx : a.eval x = .slice (some ⟨g, 0, none⟩) 1 c) (hcell : ∀ j u, (bkL p)[j]? = some u → W.cell? ⟨g, j, none⟩ = some u) (hp : SlC W p.a p.ents)
    (hown : ∀ x ∈ l ++ [p], ∀ b off, x.a = some ⟨b, off, none⟩ → v.ownBlock ≠ some b)
    (hbytes : l.length + 1 ≤ 100000) (hbase : base ≤ W.heap.size)
    (h : ∀ v' w', Bks w' base v' (l ++ [p]) → W.grownBy w' v.ownBlock → (v'.ownBlock = v.ownBlock ∨ v'.ownBlock = some W.heap.size) → wpList Tryd.prog ops Q rest (a.put o.dst v') w') : wpList Tryd.prog ops Q (o :: rest) a W := by
  obtain ⟨i0, hi, hz0, hz1, hz2⟩ := info_parts two_B
  obtain ⟨v', w', hr, hown', hg, _, hob⟩ := run_append_own_at (P := Tryd.prog) W base t o.type 32 i0 (.agg #[.int .i64 0, .slice none 0 0]) 2 32 ht hi hz0 hz1 hz2 rfl (by decide) v l.length _ hb.row ⟨g, 0, none⟩ 1 c (bkL p) rfl
    (fun j u hj => by
      rw [add_plain, Nat.zero_add]
      exact hcell j u hj) (by
      intro u hu
      simp only [bkL, List.mem_cons, List.not_mem_nil, or_false] at hu
      rcases hu with rfl | rfl <;> rfl) (by unfold maxLen; omega) (by omega) hbase
  refine wpList_plain hgd fun K hK => ?_
  unfold Oper.wp execOp
  simp only [ho, resolve, invoke, builtin, Sem.run_bind, Sem.run_pure, Result.andThen_ok, List.map_toArray, List.map_cons, List.map_nil, hs, hx, hr]
  refine hK _ _ (h v' w' ⟨?_, ?_⟩ hg hob)
  · rw [List.flatMap_append, List.length_append, List.flatMap_cons, List.flatMap_nil, List.append_nil]
    exact hown'
  · intro y hy
    have hyw : SlC W y.a y.ents := by
      rcases List.mem_append.1 hy with h | h
      · exact hb.ents y h
      · rw [List.mem_singleton.1 h]
        exact hp
    intro hne
    obtain ⟨b, off, e, hlt, hc⟩ := hyw hne
    refine ⟨b, off, e, Nat.lt_of_lt_of_le hlt hg.size, fun i z hz j u hu => ?_⟩
    have hblk := hg.block b hlt (fun e2 => hown y hy b off e e2.symm)
    rw [show w'.cell? ⟨b, off + i * 4 + j, none⟩ = W.cell? ⟨b, off + i * 4 + j, none⟩ by simp only [World.cell?, hblk]]
    exact hc i z hz j u hu
theorem below_bks {w w' : World} {base : Nat} {v : Value} {l : List BkD} {a : World} (h : Below base a w) (hg : w.grownBy w' v.ownBlock) (hr : Bks w base v l) (hb : base ≤ w.heap.size) : Below base a w' :=
  h.grown hg hb fun k hk => (World.ownsRow.lt hr.row k hk).1
end Go.Proofs.YtljjcchdhnficaaDoor
