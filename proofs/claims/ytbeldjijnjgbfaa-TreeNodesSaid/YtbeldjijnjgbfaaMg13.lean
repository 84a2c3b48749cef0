/-
  Texts put together: Sched3, NodeA.
-/
import Derived.Test.YtbeldjijnjgbfaaMg12
import Derived.Test.YtbeldjijnjgbfaaNodeE
import Derived.Test.YtbeldjijnjgbfaaMg10
namespace Go.Proofs.Ytbeldjijnjgbfaa
open Go

/-- A tree of schedules. -/
inductive Sch where
  | nil
  | quiet (i : Nat) (r : Sch)
  | make (i : Nat) (r : Sch)
  | two (i j : Nat) (r q : Sch)
def Sch.depth : Sch → Nat
  | .nil => 0
  | .quiet _ r => r.depth + 1
  | .make _ r => r.depth + 1
  | .two _ _ r _ => r.depth + 1

section
variable {P : Program} {ops : Array Oper} {Q : Exit → Act → World → Prop}

def wpTr (P : Program) (ops : Array Oper) (Q : Exit → Act → World → Prop) (Lq : Act → World → Prop) : Sch → (World → Prop) → Act → World → Prop
  | .nil, _, a, w => Lq a w
  | .quiet i r, S, a, w => ∃ o a1, ops[i]? = some o ∧ (∀ W, S W → if Region.wanted o (yielded ops a.tmps) then o.still P a W (fun a' => a' = a1) else a.put o.dst undef = a1) ∧ wpTr P ops Q Lq r S a1 w
  | .make i r, S, a, w => wpOp P ops (Calm Q) i (fun a' w' => ∃ S' : World → Prop, (∀ W, S' W → S W) ∧ S' w' ∧ wpTr P ops Q Lq r S' a' w') a w
  | .two i j r q, S, a, w => wpOp P ops (Calm Q) i (fun a' w' => ∃ S' : World → Prop, (∀ W, S' W → S W) ∧ S' w' ∧ wpTr P ops Q Lq r S' a' w') a w ∧ wpOp P ops (Calm Q) j (fun a' w' => ∃ S' : World → Prop, (∀ W, S' W → S W) ∧ S' w' ∧ wpTr P ops Q Lq q S' a' w') a w
def trB (ops : Array Oper) (g n : Nat) : Sch → Array Bool → Bool
  | .nil, listed => Region.seqB .any ops g n listed
  | .quiet i r, listed => (Region.ready .any ops listed).contains i && Region.free .any ops listed i && decide (i < n) && trB ops g n r (listed.setIfInBounds i true)
  | .make i r, listed => decide (Region.ready .any ops listed = [i]) && decide (i < n) && trB ops g n r (listed.setIfInBounds i true)
  | .two i j r q, listed => decide (Region.ready .any ops listed = [i, j]) && decide (i < n ∧ j < n ∧ q.depth = r.depth) && trB ops g n r (listed.setIfInBounds i true) && trB ops g n q (listed.setIfInBounds j true)
def treeB (ops : Array Oper) (n : Nat) (sch : Sch) : Bool :=
  Region.noSelect ops && decide (n < ops.size) && Region.sinkB .any ops n && Region.chainB .any ops n && decide (sch.depth = n) && trB ops (ops.size - n) n sch (Array.replicate ops.size false)

theorem wpX_of_tr {n g : Nat} {Lq : Act → World → Prop} (hsel : Region.noSelect ops = true) (hs : Region.sinkB .any ops n = true) (hc : Region.chainB .any ops n = true) (hn : n < ops.size) :
    ∀ (sch : Sch) (S : World → Prop) (listed : Array Bool) (a : Act) (w : World), HeadInv .any ops n listed → S w → trB ops g n sch listed = true → wpTr P ops Q Lq sch S a w →
    wpX P ops Q n (fun listed' a' w' => Region.seqB .any ops g n listed' = true ∧ Lq a' w') sch.depth S listed a w
  | .nil, _, listed, a, w, _, _, hB, h => ⟨hB, h⟩
  | .quiet i r, S, listed, a, w, inv, hS, hB, h => by
    rw [trB, Bool.and_eq_true, Bool.and_eq_true, Bool.and_eq_true] at hB
    obtain ⟨⟨⟨hr, hf⟩, hin⟩, hB'⟩ := hB
    have hr' : i ∈ Region.ready .any ops listed := by simpa using hr
    have hin' : i < n := of_decide_eq_true hin
    obtain ⟨o, a1, h0, hst, hK⟩ := h
    have hst' : ∀ W, S W → ∃ v', YieldsAt P ops W o v' a ∧ a.put o.dst v' = a1 := fun W hW => by
      have := hst W hW
      exact yieldsAt_of_stOp (i := i) h0 (by unfold stOp; simp only [h0]; exact this)
    obtain ⟨v, _, hv⟩ := hst' w hS
    subst hv
    exact wpX_first h0 (Region.noSelect_spec hsel) hs hc hn hin' (fun listed' a' w' hL => seqB_ready hL.1) r.depth S listed a w v inv (Region.free_spec h0 hf) hr' hS hst'
      (wpX_of_tr hsel hs hc hn r S _ _ w (inv.set hr' hin') hS hB' hK)
  | .make i r, S, listed, a, w, inv, hS, hB, h => by
    rw [trB, Bool.and_eq_true, Bool.and_eq_true] at hB
    obtain ⟨⟨hr, hin⟩, hB'⟩ := hB
    have hr1 : Region.ready .any ops listed = [i] := of_decide_eq_true hr
    have hin' : i < n := of_decide_eq_true hin
    refine ⟨fun h => (by rw [hr1] at h; cases h), fun j hj => ?_⟩
    have hji : j = i := by rw [hr1] at hj; simpa using hj
    subst hji
    refine ⟨hin', ?_⟩
    have h' : wpOp P ops (Calm Q) j (fun a' w' => ∃ S' : World → Prop, (∀ W, S' W → S W) ∧ S' w' ∧ wpTr P ops Q Lq r S' a' w') a w := h
    refine wpOp_mono (fun a' w' ⟨S', hm, hS', h3⟩ => ⟨S', hm, hS', ?_⟩) h'
    exact wpX_of_tr hsel hs hc hn r S' _ a' w' (inv.set hj hin') hS' hB' h3
  | .two i k r q, S, listed, a, w, inv, hS, hB, h => by
    rw [trB, Bool.and_eq_true, Bool.and_eq_true, Bool.and_eq_true] at hB
    obtain ⟨⟨⟨hr, hin⟩, hB1⟩, hB2⟩ := hB
    have hr1 : Region.ready .any ops listed = [i, k] := of_decide_eq_true hr
    obtain ⟨hi, hk, hd⟩ := of_decide_eq_true hin
    obtain ⟨h1, h2⟩ : wpOp P ops (Calm Q) i (fun a' w' => ∃ S' : World → Prop, (∀ W, S' W → S W) ∧ S' w' ∧ wpTr P ops Q Lq r S' a' w') a w ∧ wpOp P ops (Calm Q) k (fun a' w' => ∃ S' : World → Prop, (∀ W, S' W → S W) ∧ S' w' ∧ wpTr P ops Q Lq q S' a' w') a w := h
    refine ⟨fun h => (by rw [hr1] at h; cases h), fun j hj => ?_⟩
    have hji : j = i ∨ j = k := by rw [hr1] at hj; simpa using hj
    rcases hji with rfl | rfl
    · refine ⟨hi, wpOp_mono (fun a' w' ⟨S', hm, hS', h3⟩ => ⟨S', hm, hS', ?_⟩) h1⟩
      exact wpX_of_tr hsel hs hc hn r S' _ a' w' (inv.set hj hi) hS' hB1 h3
    · refine ⟨hk, wpOp_mono (fun a' w' ⟨S', hm, hS', h3⟩ => ⟨S', hm, hS', ?_⟩) h2⟩
      have := wpX_of_tr hsel hs hc hn q S' _ a' w' (inv.set hj hk) hS' hB2 h3
      rw [hd] at this
      exact this

theorem wpTr_nil {Lq : Act → World → Prop} {S : World → Prop} {a : Act} {w : World} (h : Lq a w) : wpTr P ops Q Lq .nil S a w := h
/-- An operation that only reads. -/
theorem wpTr_step {l : List Oper} {Lq : Act → World → Prop} {S : World → Prop} {i : Nat} {o : Oper} {r : Sch} {a a1 : Act} {w : World} (hi : l[i]? = some o)
    (h : ∀ W, S W → ∀ K : Act → Prop, (∀ a', a' = a1 → K a') → if Region.wanted o (yielded l.toArray a.tmps) then o.still P a W K else K (a.put o.dst undef))
    (h2 : wpTr P l.toArray Q Lq r S a1 w) : wpTr P l.toArray Q Lq (.quiet i r) S a w :=
  ⟨o, a1, by simpa using hi, fun W hS => h W hS (fun a' => a' = a1) (fun _ h => h), h2⟩
/-- One that makes memory: S may say more behind it. -/
theorem wpTr_make {l : List Oper} {Lq : Act → World → Prop} {S : World → Prop} {i : Nat} {o : Oper} {r : Sch} {a : Act} {w : World} (hi : l[i]? = some o)
    (h : ∀ K' : Act → World → Prop, (∀ a' w' (S' : World → Prop), (∀ W, S' W → S W) → S' w' → wpTr P l.toArray Q Lq r S' a' w' → K' a' w') → if Region.wanted o (yielded l.toArray a.tmps) then o.wp P a w K' (Calm Q) else K' (a.put o.dst undef) w) :
    wpTr P l.toArray Q Lq (.make i r) S a w :=
  wpOp_step hi (fun K' hK => h K' (fun a' w' S' h1 h2 h3 => hK a' w' ⟨S', h1, h2, h3⟩))
/-- Two that make memory, either of which may come first. -/
theorem wpTr_two {l : List Oper} {Lq : Act → World → Prop} {S : World → Prop} {i j : Nat} {o p : Oper} {r q : Sch} {a : Act} {w : World} (hi : l[i]? = some o) (hj : l[j]? = some p)
    (h : ∀ K' : Act → World → Prop, (∀ a' w' (S' : World → Prop), (∀ W, S' W → S W) → S' w' → wpTr P l.toArray Q Lq r S' a' w' → K' a' w') → if Region.wanted o (yielded l.toArray a.tmps) then o.wp P a w K' (Calm Q) else K' (a.put o.dst undef) w)
    (h2 : ∀ K' : Act → World → Prop, (∀ a' w' (S' : World → Prop), (∀ W, S' W → S W) → S' w' → wpTr P l.toArray Q Lq q S' a' w' → K' a' w') → if Region.wanted p (yielded l.toArray a.tmps) then p.wp P a w K' (Calm Q) else K' (a.put p.dst undef) w) :
    wpTr P l.toArray Q Lq (.two i j r q) S a w :=
  ⟨wpOp_step hi (fun K' hK => h K' (fun a' w' S' h1 h2 h3 => hK a' w' ⟨S', h1, h2, h3⟩)), wpOp_step hj (fun K' hK => h2 K' (fun a' w' S' h1 h2 h3 => hK a' w' ⟨S', h1, h2, h3⟩))⟩
/-- The region by its tree: n operations, and a tail in its order. -/
theorem wp_region_tree {id : Nat} {a : Act} {w : World} {l : List Oper} (S : World → Prop) (n : Nat) (sch : Sch) (hm : P.follows .mixedOrders = true) (hB : treeB l.toArray n sch = true) (hS : S w.drew)
    (h : wpTr P l.toArray Q (fun a' w' => wpList P l.toArray Q (l.drop n) a' w') sch S a w.drew) : (Code.region id l.toArray true).wp P Q a w := by
  simp only [treeB, Bool.and_eq_true, decide_eq_true_eq] at hB
  obtain ⟨⟨⟨⟨⟨hsel, hn⟩, hs⟩, hc⟩, hlen⟩, hlex⟩ := hB
  have hn' : n < l.length := by simpa using hn
  have hdl : (l.drop n).length = l.toArray.size - n := by simp
  have inv0 : HeadInv .any l.toArray n (Array.replicate l.toArray.size false) :=
    ⟨by simp, fun j oj _ hl => (by rw [getD_replicate_false] at hl; cases hl), fun t _ ht => getD_in (by simpa using ht) (getD_replicate_false _ _)⟩
  have H := wpX_of_tr (Q := Q) (g := l.toArray.size - n) (Lq := fun a'' w'' => wpList P l.toArray Q (l.drop n) a'' w'') hsel hs hc hn sch S _ a w.drew inv0 hS hlex h
  refine wp_region_any hm ?_
  have := any_of_wpX (Q := Q) (g := l.toArray.size - n) (fun listed a' w' hL => by
    have := wpAny_of_seq (md := .any) (Q' := Q) (l.drop n) n listed a' w' (fun j => by simp [List.getElem?_drop]) (by rw [hdl]; exact hL.1) hL.2
    rwa [hdl] at this) _ _ _ _ _ H
  rw [hlen, show n + (l.toArray.size - n) = l.toArray.size by omega] at this
  exact this
end
end Go.Proofs.Ytbeldjijnjgbfaa

namespace Go.Proofs.Ytbeldjijnjgbfaa
open Go.RowKit Go.ChangeShapes Go.WideShapes Go.ChangeAt

theorem Sl.keep {w w' : World} {f : ByteArray → Value} {a : Option Addr} {l : List ByteArray} (h : Sl w f a l) (hb : Below w.heap.size w w') : Sl w' f a l := by
  intro hne
  obtain ⟨b, off, e, hlt, hc⟩ := h hne
  exact ⟨b, off, e, Nat.lt_of_lt_of_le hlt hb.size, fun i x hx => (hb.cell (p := ⟨b, off + i, none⟩) hlt).trans (hc i x hx)⟩
theorem Sl.get {w : World} {a : Option Addr} {l : List ByteArray} (h : Sl w Value.string a l) (k : Nat) (hk : k < l.length) : ∃ b off, a = some ⟨b, off, none⟩ ∧ b < w.heap.size ∧ w.cell? ⟨b, off + k, none⟩ = some (.string l[k]) := by
  obtain ⟨b, off, e, hlt, hc⟩ := h (by intro e; rw [e] at hk; simp at hk)
  exact ⟨b, off, e, hlt, hc k _ (List.getElem?_eq_getElem hk)⟩
def nodeV (ka : Option Addr) (kc : Nat) (va : Option Addr) (vc : Nat) (d : NodeD) : Value := .agg #[.bool d.leaf, .slice ka d.keys.length kc, .slice va d.vals.length vc]
/-- What lies in a node's slices, and how many there may be. -/
structure NodeIn (w : World) (ka va : Option Addr) (d : NodeD) : Prop where
  ks : Sl w Value.string ka d.keys
  vs : Sl w Value.string va d.vals
  kl : d.keys.length ≤ 100000
  vl : d.vals.length ≤ 100000
theorem NodeIn.keep {w w' : World} {ka va : Option Addr} {d : NodeD} (h : NodeIn w ka va d) (hb : Below w.heap.size w w') : NodeIn w' ka va d := ⟨h.ks.keep hb, h.vs.keep hb, h.kl, h.vl⟩

theorem maystand_any (k v : ByteArray) (w : World) (hk : k.size ≤ maxLen) (hv : v.size ≤ maxLen) : Calls Try.prog 51 #[.string k, .string v] w fun e w' => e = .returned (.bool (okE k v)) ∧ w = w' := by
  unfold maxLen at hk hv
  by_cases h0 : 0 < k.size
  · obtain ⟨hs1, hs2⟩ := str_some k h0
    by_cases h1 : k.size ≤ 300
    · have e : okE k v = decide (v.size ≤ 120) := by unfold okE; simp [h0, h1]
      rw [e]
      go_enter Try.func51, Try.ntmps51
      go_wp2
      go_ret
      exact ⟨ret_bool (decide_eq_decide.2 (by omega)), rfl⟩
    · have e : okE k v = false := by unfold okE; simp [h1]
      rw [e]
      go_enter Try.func51, Try.ntmps51
      go_wp2
      go_ret
      exact ⟨rfl, rfl⟩
  · have e : okE k v = false := by unfold okE; simp [h0]
    rw [e]
    have : k = ⟨#[]⟩ := by
      have h1 : k.data.size = 0 := by have : k.data.size = k.size := rfl; omega
      cases k; simp_all
    subst this
    go_enter Try.func51, Try.ntmps51
    go_wp2
    go_ret
    exact ⟨rfl, rfl⟩
theorem str_leq0 (x y : ByteArray) (W : World) : (binOp .leq 9 (.string x) (.string y)).run Try.prog W = .ok (.bool (Op.bytesLess x.toList y.toList || (x.toList == y.toList))) W := by kernel_rfl
theorem str_leq (x y : ByteArray) (W : World) : (binOp .leq 9 (.string x) (.string y)).run Try.prog W = .ok (.bool (!ltK y x)) W := by rw [str_leq0, leK_eq]
theorem str_geq (x y : ByteArray) (W : World) : (binOp .geq 9 (.string x) (.string y)).run Try.prog W = .ok (.bool (!ltK x y)) W := by kernel_rfl
theorem str_gtr0 (x y : ByteArray) (W : World) : (binOp .gtr 9 (.string x) (.string y)).run Try.prog W = .ok (.bool (!(Op.bytesLess x.toList y.toList || (x.toList == y.toList)))) W := by kernel_rfl
theorem str_gtr (x y : ByteArray) (W : World) : (binOp .gtr 9 (.string x) (.string y)).run Try.prog W = .ok (.bool (ltK y x)) W := by rw [str_gtr0, leK_eq, Bool.not_not]

/-- The key ahead of place k. -/
def lastK (l : List ByteArray) : Nat → ByteArray
  | 0 => ⟨#[]⟩
  | k + 1 => l.getD k ⟨#[]⟩
theorem may_step (d : NodeD) (k : Nat) (h1 : k < d.keys.length) (h2 : k < d.vals.length) : mayG (lastK d.keys k) (d.keys.drop k) (d.vals.drop k) = (ltK (lastK d.keys k) d.keys[k] && (okE d.keys[k] d.vals[k] && mayG (lastK d.keys (k + 1)) (d.keys.drop (k + 1)) (d.vals.drop (k + 1)))) := by
  rw [List.drop_eq_getElem_cons h1, List.drop_eq_getElem_cons h2, mayG]
  simp [lastK, List.getD, h1]
set_option maxHeartbeats 1000000 in
theorem maybe_any (ka : Option Addr) (kc : Nat) (va : Option Addr) (vc : Nat) (d : NodeD) (w : World) (h : NodeIn w ka va d) (hz : ∀ s ∈ d.keys ++ d.vals, s.size ≤ maxLen) :
    Calls Try.prog 39 #[nodeV ka kc va vc d] w fun e w' => e = .returned (.bool (mayD d)) ∧ Below w.heap.size w w' := by
  have H := Lib.hid h
  have HZ := Lib.hid hz
  have hkl := h.kl
  have hvl := h.vl
  have HB0 : Hid (∀ o, Below w.heap.size w (w.alloc o)) := fun o => (Below.refl _ _).alloc (Nat.le_refl _) o
  clear h hz
  unfold nodeV
  by_cases h1 : d.keys.length = d.vals.length
  · by_cases h2 : d.keys.length ≤ 255
    · have hm : mayD d = mayG ⟨#[]⟩ d.keys d.vals := by unfold mayD; simp [h1, show d.vals.length ≤ 255 by omega]
      obtain ⟨R, hR⟩ : ∃ R, R = mayD d := ⟨_, rfl⟩
      rw [← hR]
      have HR : Hid (R = mayG (lastK d.keys 0) (d.keys.drop 0) (d.vals.drop 0)) := by show _ = _; rw [hR, hm]; rfl
      have H1 := Lib.hid h1
      clear hR hm
      have e1 : ((d.keys.length : Int) != (d.vals.length : Int)) = false := by rw [h1]; simp
      clear h1
      go_enter Try.func39, Try.ntmps39
      go_wp2_with fail
      go_loopw [3, 4, 5, 22] (fun t _ _ i wr => ∃ k : Nat, k ≤ d.keys.length ∧ t = .string (lastK d.keys k) ∧ i = .int .i64 k ∧ Hid (R = mayG (lastK d.keys k) (d.keys.drop k) (d.vals.drop k)) ∧ Hid (NodeIn wr ka va d) ∧ Hid (Below w.heap.size w wr) ∧ Hid (Box wr w.heap.size 51 #[.bool d.leaf, .slice ka d.keys.length kc, .slice va d.vals.length vc])) (fun _ _ _ i _ => d.keys.length - (intOf i).toNat)
      case atStart => exact ⟨0, Nat.zero_le _, rfl, rfl, HR, H.out.keep (HB0.out _), HB0.out _, Box.new _ _ _⟩
      case round =>
        obtain ⟨k, hk, rfl, rfl, HG, HN, HL, HX⟩ := hrel
        by_cases hlt : k < d.keys.length
        · have h2v : k < d.vals.length := by have := H1.out; omega
          obtain ⟨b, off, hka, _, hc⟩ := HN.out.ks.get k hlt
          obtain ⟨b2, off2, hva, _, hc2⟩ := HN.out.vs.get k h2v
          subst hka hva
          have HS := Lib.hid (may_step d k hlt h2v)
          have z1 := HZ.out d.keys[k] (by simp)
          have z2 := HZ.out d.vals[k] (by simp)
          have c2 := HX.out.cell 2 _ rfl
          have hle := fun W => str_leq d.keys[k] (lastK d.keys k) W
          have hlk : Hid (lastK d.keys (k + 1) = d.keys[k]) := by show _ = _; simp [lastK, List.getD, hlt]
          have h1i : (k : Int) < (d.keys.length : Int) := by omega
          have h2i : (k : Int) < (d.vals.length : Int) := by omega
          generalize d.keys[k] = x at *
          generalize d.vals[k] = y at *
          generalize lastK d.keys k = t at *
          cases hg : ltK t x
          · have hq : ∀ W, (binOp .leq 9 (.string x) (.string t)).run Try.prog W = .ok (.bool true) W := fun W => by rw [hle W, hg]; rfl
            have HF : Hid (R = false) := by show _ = _; rw [HG.out, HS.out, hg]; rfl
            clear hle hg
            go_wp2
            go_ret
            exact ⟨ret_bool HF.out.symm, HL.out⟩
          · have hq : ∀ W, (binOp .leq 9 (.string x) (.string t)).run Try.prog W = .ok (.bool false) W := fun W => by rw [hle W, hg]; rfl
            have HT : Hid (R = (okE x y && mayG (lastK d.keys (k + 1)) (d.keys.drop (k + 1)) (d.vals.drop (k + 1)))) := by show _ = _; rw [HG.out, HS.out, hg]; rfl
            clear hle hg
            go_wp2_with fail
            refine (maystand_any x y _ z1 z2).mono ?_
            rintro e w1 ⟨rfl, rfl⟩
            cases ho : okE x y
            · have HF : Hid (R = false) := by show _ = _; rw [HT.out, ho]; rfl
              clear ho
              go_wp2
              go_ret
              exact ⟨ret_bool HF.out.symm, HL.out⟩
            · have HT2 : Hid (R = mayG (lastK d.keys (k + 1)) (d.keys.drop (k + 1)) (d.vals.drop (k + 1))) := by show _ = _; rw [HT.out, ho]; rfl
              clear ho
              go_wp2
              go_roundw
              case rel => exact ⟨k + 1, by omega, by rw [hlk.out], by go_num, HT2, HN, HL, HX⟩
              case measure => simp [intOf]; omega
        · have hkl : k = d.keys.length := by omega
          have HF : Hid (R = true) := by
            show _ = _
            have := H1.out
            rw [HG.out, List.drop_of_length_le (by omega), List.drop_of_length_le (by omega)]; rfl
          subst hkl
          go_wp2
          go_ret
          exact ⟨ret_bool HF.out.symm, HL.out⟩
    · have HM : Hid (mayD d = false) := by show _ = _; unfold mayD; simp [h2]
      rw [HM.out]
      have e1 : ((d.keys.length : Int) != (d.vals.length : Int)) = false := by rw [h1]; simp
      clear h1
      go_enter Try.func39, Try.ntmps39
      go_wp2
      go_ret
      exact ⟨rfl, HB0.out _⟩
  · have HM : Hid (mayD d = false) := by show _ = _; unfold mayD; simp [h1]
    rw [HM.out]
    have e1 : ((d.keys.length : Int) != (d.vals.length : Int)) = true := by simpa using fun h => h1 (by exact_mod_cast h)
    clear h1
    go_enter Try.func39, Try.ntmps39
    go_wp2
    go_ret
    exact ⟨rfl, HB0.out _⟩
end Go.Proofs.Ytbeldjijnjgbfaa
