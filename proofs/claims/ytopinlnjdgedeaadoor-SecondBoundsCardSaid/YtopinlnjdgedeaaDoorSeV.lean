/-
  Package second: a cache that was fed texts under unlike keys, one behind the other.
-/
import Derived.Test.YtopinlnjdgedeaaDoorSeU
namespace Go.Proofs.YtopinlnjdgedeaaDoor
open Go Go.RowKit

/-- Which text a place has behind c Feeds: the last one that came there. -/
def idxR (r : Nat) : Nat → Nat → Option Nat
  | 0, _ => none
  | c + 1, p => if p = c % r then some c else idxR r c p
theorem idxR_lt {r : Nat} (hr : 1 ≤ r) : ∀ {c p i : Nat}, idxR r c p = some i → i < c ∧ i % r = p ∧ c ≤ i + r
  | 0, _, _, h => by cases h
  | c + 1, p, i, h => by
    unfold idxR at h
    split at h
    · next e =>
      cases h
      exact ⟨Nat.lt_succ_self _, e.symm, by omega⟩
    · next e =>
      obtain ⟨h1, h2, h3⟩ := idxR_lt hr h
      refine ⟨by omega, h2, ?_⟩
      by_cases h4 : c = i + r
      · exact absurd (by rw [h4, Nat.add_mod_right]; exact h2.symm) e
      · omega
theorem idxR_is {r : Nat} (hr : 1 ≤ r) : ∀ {c i : Nat}, i < c → c ≤ i + r → idxR r c (i % r) = some i
  | 0, _, h, _ => by omega
  | c + 1, i, h, h2 => by
    unfold idxR
    by_cases e : i = c
    · rw [if_pos (by rw [e]), e]
    · rw [if_neg, idxR_is hr (by omega) (by omega)]
      intro e2
      have h3 : c - i < r := by omega
      have h4 : i ≤ c := by omega
      have h5 : (c - i) % r = 0 := Nat.sub_mod_eq_zero_of_mod_eq (m := c) (n := i) (k := r) e2.symm
      rw [Nat.mod_eq_of_lt h3] at h5
      omega

/-- Texts, each under a key of its own. -/
abbrev FedL := List (ByteArray × ByteArray)
def keyF (F : FedL) (i : Nat) : ByteArray := (F.getD i (⟨#[]⟩, ⟨#[]⟩)).1
def txtF (F : FedL) (i : Nat) : ByteArray := (F.getD i (⟨#[]⟩, ⟨#[]⟩)).2
structure FedOk (F : FedL) : Prop where
  may : ∀ i, i < F.length → mayF (keyF F i) (txtF F i)
  apart : ∀ i j, i < F.length → j < F.length → keyF F i = keyF F j → i = j
  len : F.length ≤ 100
def mkE (F : FedL) (f i p : Nat) : CgE := ⟨keyF F i, sha (txtF F i), ((txtF F i).size : Int), ((secN f p : Nat) : Int)⟩
theorem mkE_may {F : FedL} (h : FedOk F) {f n i p : Nat} (hi : i < F.length) (hfn : f + n ≤ 512) (hp : p < roomN n) : MayC (mkE F f i p) := by
  obtain ⟨h1, h2, h3⟩ := h.may i hi
  have := secN_lt (f := f) hp
  exact ⟨h1, h2, sha_size' _, by show (0 : Int) ≤ ((txtF F i).size : Int); omega, by show ((txtF F i).size : Int) ≤ 960; omega, by show (0 : Int) ≤ ((secN f p : Nat) : Int); omega, by show ((secN f p : Nat) : Int) < 512; omega⟩

theorem encT_size {q : Int} {l : List CgE} (h : chkC q l = 0) : (encT q l).size ≤ 1024 := by
  obtain ⟨_, _, h7, ha⟩ := chkC_zero h
  rw [← encT_eq, (enc_back h).2.2]
  have : ∀ m : List CgE, (∀ y ∈ m, MayC y) → (m.flatMap entL).length ≤ 97 * m.length := by
    intro m
    induction m with
    | nil => intro _; exact Nat.zero_le _
    | cons y r ih =>
      intro hm
      have h1 := ih (fun z hz => hm z (List.mem_cons_of_mem _ hz))
      have h2 := entL_len (hm y List.mem_cons_self)
      have h3 := (hm y List.mem_cons_self).2.1
      rw [List.flatMap_cons, List.length_append, List.length_cons]
      omega
  have := this l ha
  omega
theorem lsec_eq (f g : Nat) : secN f (7 * g) - 1 = f + 8 * g := by unfold secN; omega
theorem sec_eq (f p : Nat) : secN f p = f + 8 * (p / 7) + p % 7 + 1 := by unfold secN; omega
theorem grp_eq (h : Nat) : grp h = 7 * (h / 7) := by unfold grp; omega

/-- What stands behind c Feeds. -/
structure FdS (F : FedL) (f n N c : Nat) (d : DevD) (x : SecD) : Prop where
  hf : x.f = f
  hn : x.n = n
  num : x.num = 2 * c
  hand : x.hand = c % roomN n
  len : x.e.length ≤ c
  pos : ∀ k y, findS x.e k = some y → y.pos = k ∧ 0 ≤ k ∧ k < 1000
  dv : DvOk N d
  few : d.waits.length ≤ 1
  ent : ∀ p, p < roomN n → findS x.e (secN f p) = (idxR (roomN n) c p).map (fun i => mkE F f i p)
  txt : ∀ p i, p < roomN n → idxR (roomN n) c p = some i → effK d (secN f p) = txtF F i ∧ perK d (secN f p) = txtF F i ∧ tellD d (1, ((secN f p : Nat) : Int)) = txtF F i
  logE : ∀ g, g < groups n → LogIs (effK d) x.e f n g
  logP : ∃ e', (∀ p y, p < roomN n → findS e' (secN f p) = some y → findS x.e (secN f p) = some y) ∧ ∀ g, g < groups n → LogIs (perK d) e' f n g
theorem FdS.placed {F : FedL} {f n N c : Nat} {d : DevD} {x : SecD} (h : FdS F f n N c d x) : Placed x.e f n := by
  intro p y hp hy
  rw [h.ent p hp] at hy
  cases hi : idxR (roomN n) c p with
  | none => rw [hi] at hy; cases hy
  | some i =>
    rw [hi] at hy
    simp only [Option.map_some, Option.some.injEq] at hy
    rw [← hy]
    rfl
theorem LogIs.cong {T T' : Nat → ByteArray} {e e' : List EnD} {f n g : Nat} (h : LogIs T e f n g) (hT : T' (secN f (7 * g) - 1) = T (secN f (7 * g) - 1)) (he : ∀ p, 7 * g ≤ p → p < min (7 * g + 7) (roomN n) → findS e' (secN f p) = findS e (secN f p)) : LogIs T' e' f n g := by
  have ha : amongK e' f (7 * g) (min (7 * g + 7) (roomN n)) = amongK e f (7 * g) (min (7 * g + 7) (roomN n)) := amongK_cong he
  rcases h with ⟨h1, h2⟩ | ⟨q, h1, h2⟩
  · exact .inl ⟨hT.trans h1, fun p p1 p2 => (he p p1 p2).trans (h2 p p1 p2)⟩
  · exact .inr ⟨q, by rw [ha]; exact h1, by rw [ha, hT]; exact h2⟩
theorem chk_among {q : Int} {e : List EnD} {f n g : Nat} (h0 : 0 ≤ q) (h1 : q ≤ 1099511627776) (he : ∀ p y, p < roomN n → findS e (secN f p) = some y → MayC y) : chkC q (amongK e f (7 * g) (min (7 * g + 7) (roomN n))) = 0 := by
  refine chkC_ok ⟨h0, h1, ?_⟩ (fun k hk => ?_)
  · have := amongK_len e f (7 * g) (min (7 * g + 7) (roomN n))
    omega
  · obtain ⟨p, p1, p2, p3⟩ := amongK_mem (List.getElem_mem hk)
    exact he p _ (by omega) p3
theorem FdS.may {F : FedL} {f n N c : Nat} {d : DevD} {x : SecD} (h : FdS F f n N c d x) (hF : FedOk F) (hc : c ≤ F.length) (hfn : f + n ≤ 512) (h2 : 2 ≤ n) {p : Nat} {y : CgE} (hp : p < roomN n) (hy : findS x.e (secN f p) = some y) : MayC y ∧ ∃ i, i < c ∧ y = mkE F f i p ∧ idxR (roomN n) c p = some i := by
  rw [h.ent p hp] at hy
  cases hi : idxR (roomN n) c p with
  | none => rw [hi] at hy; cases hy
  | some i =>
    rw [hi] at hy
    simp only [Option.map_some, Option.some.injEq] at hy
    have h3 := idxR_lt (room_pos h2) hi
    rw [← hy]
    exact ⟨mkE_may hF (by omega) hfn hp, i, h3.1, rfl, rfl⟩

theorem mid_num (x : SecD) (key load : ByteArray) : (midX x key load).num = x.num + 1 ∧ (midX x key load).f = x.f ∧ (midX x key load).n = x.n ∧ (midX x key load).hand = x.hand ∧ (midX x key load).e = putS (forgetS x.e (atX x)) (atX x) (newE x key load) := ⟨rfl, rfl, rfl, rfl, rfl⟩
theorem put_num (x : SecD) (key load : ByteArray) : (putX x key load).num = x.num + 2 ∧ (putX x key load).f = x.f ∧ (putX x key load).n = x.n ∧ (putX x key load).hand = (x.hand + 1) % roomN x.n ∧ (putX x key load).e = putS (forgetS x.e (atX x)) (atX x) (newE x key load) := ⟨rfl, rfl, rfl, rfl, rfl⟩
theorem FdS.none {F : FedL} {f n N c : Nat} {d : DevD} {x : SecD} (h : FdS F f n N c d x) (hF : FedOk F) (hc : c < F.length) (hfn : f + n ≤ 512) (h2 : 2 ≤ n) : ¬ (entOf x (keyF F c)).isSome = true := by
  rw [entOf_no]
  · simp
  · intro z hz e
    obtain ⟨p, _, p2, p3⟩ := amongK_mem hz
    rw [h.hf, h.hn] at *
    obtain ⟨_, i, i1, i2, _⟩ := h.may hF (by omega) hfn h2 p2 p3
    rw [i2] at e
    have := hF.apart i c (by omega) hc e
    omega
/-- One Feed more. -/
theorem FdS.step {F : FedL} {f n N c : Nat} {d : DevD} {x : SecD} (h : FdS F f n N c d x) (hF : FedOk F) (hc : c < F.length) (hfn : f + n ≤ N) (hN : N ≤ 512) (h2 : 2 ≤ n) :
    feedX d x (keyF F c) (txtF F c) = (true, putD' d x (keyF F c) (txtF F c), putX x (keyF F c) (txtF F c)) ∧ FdS F f n N (c + 1) (putD' d x (keyF F c) (txtF F c)) (putX x (keyF F c) (txtF F c)) := by
  have hmay := hF.may c hc
  have hlen := hF.len
  have hr := room_pos h2
  have hhp : c % roomN n < roomN n := Nat.mod_lt _ hr
  have hnone := h.none hF hc (by omega) h2
  have hfed := feedX_put (d := d) (x := x) (key := keyF F c) (load := txtF F c) (fun e => e.elim (fun e => e hmay) (fun e => by rw [h.dv.lost] at e; cases e)) hnone (by rw [h.num]; omega)
  refine ⟨hfed, ?_⟩
  generalize hk : keyF F c = key at *
  generalize hl : txtF F c = load at *
  obtain ⟨hp, hhpe⟩ : ∃ hp, hp = c % roomN n := ⟨_, rfl⟩
  rw [← hhpe] at hhp
  have hxh : x.hand = hp := by rw [h.hand, hhpe]
  have hat : atX x = ((secN f hp : Nat) : Int) := by unfold atX; rw [h.hf, hxh]
  have hgrp : grp x.hand = 7 * (hp / 7) := by rw [hxh]; exact grp_eq hp
  have hlg : secN x.f (grp x.hand) - 1 = secN f (7 * (hp / 7)) - 1 := by rw [h.hf, hgrp]
  have hsec : secN x.f x.hand = secN f hp := by rw [h.hf, hxh]
  have hsl := secN_lt (f := f) hhp
  have hsq := sec_eq f hp
  have hlq := lsec_eq f (hp / 7)
  obtain ⟨mn, mf, mnn, mh, me⟩ := mid_num x key load
  obtain ⟨pn, pf, pnn, ph, pe⟩ := put_num x key load
  have hE1 : ∀ p y, p < roomN n → findS (forgetS x.e (atX x)) (secN f p) = some y → findS x.e (secN f p) = some y ∧ p ≠ hp := by
    intro p y hpr hy
    by_cases e : ((secN f p : Nat) : Int) = atX x
    · rw [e, sforget_same] at hy; cases hy
    · rw [sforget_other e] at hy
      exact ⟨hy, fun e2 => e (by rw [e2, hat])⟩
  have hE2 : ∀ p, p < roomN n → findS (putS (forgetS x.e (atX x)) (atX x) (newE x key load)) (secN f p) = if p = hp then some (mkE F f c p) else findS x.e (secN f p) := by
    intro p hpr
    by_cases e : p = hp
    · rw [if_pos e, e, ← hat, sput_same]
      congr 1
      unfold newE mkE
      rw [hk, hl, hat]
    · have hne : ((secN f p : Nat) : Int) ≠ atX x := by
        rw [hat]
        intro e2
        exact e (secN_inj (f := f) (by exact_mod_cast e2))
      rw [if_neg e, sput_other _ hne, sforget_other hne]
  have hm1 : ∀ p y, p < roomN n → findS (forgetS x.e (atX x)) (secN f p) = some y → MayC y := fun p y hpr hy => (h.may hF (by omega) (by omega) h2 hpr (hE1 p y hpr hy).1).1
  have hm2 : ∀ p y, p < roomN n → findS (putS (forgetS x.e (atX x)) (atX x) (newE x key load)) (secN f p) = some y → MayC y := fun p y hpr hy => by
    rw [hE2 p hpr] at hy
    split at hy
    · cases hy
      exact mkE_may hF hc (by omega) hpr
    · exact (h.may hF (by omega) (by omega) h2 hpr hy).1
  have hc1 : chkC (((x.num + 1 : Nat) : Int)) (amongK (forgetS x.e (atX x)) f (7 * (hp / 7)) (min (7 * (hp / 7) + 7) (roomN n))) = 0 := chk_among (by omega) (by rw [h.num]; omega) hm1
  have hc2 : chkC (((x.num + 1 + 1 : Nat) : Int)) (amongK (putS (forgetS x.e (atX x)) (atX x) (newE x key load)) f (7 * (hp / 7)) (min (7 * (hp / 7) + 7) (roomN n))) = 0 := chk_among (by omega) (by rw [h.num]; omega) hm2
  have hl1 : logT (dropX x (atX x)) = encT ((x.num + 1 : Nat) : Int) (amongK (forgetS x.e (atX x)) f (7 * (hp / 7)) (min (7 * (hp / 7) + 7) (roomN n))) := by
    have := logT_def (dropX x (atX x))
    rw [show (dropX x (atX x)).num = x.num from rfl, show (dropX x (atX x)).e = forgetS x.e (atX x) from rfl, show (dropX x (atX x)).f = x.f from rfl, show (dropX x (atX x)).n = x.n from rfl, show (dropX x (atX x)).hand = x.hand from rfl, hgrp, h.hf, h.hn] at this
    exact this
  have hl2 : logT (midX x key load) = encT ((x.num + 1 + 1 : Nat) : Int) (amongK (putS (forgetS x.e (atX x)) (atX x) (newE x key load)) f (7 * (hp / 7)) (min (7 * (hp / 7) + 7) (roomN n))) := by
    have := logT_def (midX x key load)
    rw [mn, me, mf, mnn, mh, hgrp, h.hf, h.hn] at this
    exact this
  obtain ⟨dv, dE, dP, dw, dT⟩ := feed_dev (key := key) (load := load) h.dv (Nat.le_trans hmay.2.2 (by decide)) (by rw [hsec]; omega) (by rw [hl1]; exact encT_size hc1) (by rw [hl2]; exact encT_size hc2) (by rw [hlg, hsec, hlq, hsq]; omega) (by rw [hlg, hlq]; unfold roomN at hhp; omega)
  rw [hlg, hsec] at dE dP
  rw [hlg] at dw dT
  have hother : ∀ g, g < groups n → g ≠ hp / 7 → secN f (7 * g) - 1 < N ∧ secN f (7 * g) - 1 ≠ secN f (7 * (hp / 7)) - 1 ∧ secN f (7 * g) - 1 ≠ secN f hp := by
    intro g hg hne
    rw [lsec_eq, lsec_eq, sec_eq f hp]
    unfold groups roomN at hg
    omega
  have hin : ∀ p g, 7 * g ≤ p → p < min (7 * g + 7) (roomN n) → g ≠ hp / 7 → p ≠ hp := by
    intro p g p1 p2 p3 e
    subst e
    omega
  have hgg : hp / 7 < groups n := by unfold groups; omega
  refine ⟨by rw [pf, h.hf], by rw [pnn, h.hn], by rw [pn, h.num]; omega, ?_, ?_, ?_, dv, by rw [dw]; exact Nat.le_refl _, ?_, ?_, ?_, ?_⟩
  · rw [ph, h.hn, hxh, hhpe, Nat.mod_add_mod]
  · rw [pe]
    have h1 := sput_len (l := forgetS x.e (atX x)) (atX x) (newE x key load)
    have h3 := sforget_le x.e (atX x)
    have h4 := h.len
    omega
  · intro k y hy
    rw [pe] at hy
    by_cases e : k = atX x
    · rw [e, sput_same] at hy
      cases hy
      refine ⟨e.symm, ?_, ?_⟩
      · rw [e, hat]; omega
      · rw [e, hat]; omega
    · rw [sput_other _ e, sforget_other e] at hy
      exact h.pos k y hy
  · intro p hpr
    rw [pe, hE2 p hpr]
    unfold idxR
    rw [← hhpe]
    by_cases e : p = hp
    · rw [if_pos e, if_pos e]
      rfl
    · rw [if_neg e, if_neg e]
      exact h.ent p hpr
  · intro p i hpr hi
    have hps := secN_lt (f := f) hpr
    have hpl : secN f p ≠ secN f (7 * (hp / 7)) - 1 := by rw [lsec_eq, sec_eq f p]; omega
    have e1 := dE (secN f p) (by omega)
    have e2 := dP (secN f p) (by omega)
    have e3 := dT (secN f p) (by omega) hpl
    rw [if_neg hpl] at e1
    unfold idxR at hi
    rw [← hhpe] at hi
    by_cases e : p = hp
    · rw [if_pos e] at hi
      cases hi
      rw [if_pos (by rw [e])] at e1 e2
      rw [e3, e1, e2, ← hl]
      exact ⟨rfl, rfl, rfl⟩
    · rw [if_neg e] at hi
      have hne : secN f p ≠ secN f hp := fun e2 => e (secN_inj e2)
      rw [if_neg hne] at e1 e2
      rw [if_neg hpl] at e2
      have := h.txt p i hpr hi
      rw [e3, e1, e2]
      exact ⟨this.1, this.1, this.1⟩
  · intro g hg
    rw [pe]
    by_cases e : g = hp / 7
    · right
      rw [e]
      refine ⟨((x.num + 1 + 1 : Nat) : Int), hc2, ?_⟩
      rw [dE _ (by rw [lsec_eq]; unfold roomN at hhp; omega), if_pos rfl]
      exact hl2
    · obtain ⟨o1, o2, o3⟩ := hother g hg e
      refine (h.logE g hg).cong ?_ (fun p p1 p2 => ?_)
      · rw [dE _ o1, if_neg o2, if_neg o3]
      · rw [hE2 p (by omega), if_neg (hin p g p1 p2 e)]
  · refine ⟨forgetS x.e (atX x), fun p y hpr hy => ?_, fun g hg => ?_⟩
    · have h3 := hE1 p y hpr hy
      rw [pe, hE2 p hpr, if_neg h3.2]
      exact h3.1
    · by_cases e : g = hp / 7
      · right
        rw [e]
        refine ⟨((x.num + 1 : Nat) : Int), hc1, ?_⟩
        rw [dP _ (by rw [lsec_eq]; unfold roomN at hhp; omega), if_neg (by rw [lsec_eq, sec_eq f hp]; omega), if_pos rfl]
        exact hl1
      · obtain ⟨o1, o2, o3⟩ := hother g hg e
        refine (h.logE g hg).cong ?_ (fun p p1 p2 => ?_)
        · rw [dP _ o1, if_neg o3, if_neg o2]
        · have hne : ((secN f p : Nat) : Int) ≠ atX x := by
            rw [hat]
            intro e2
            exact hin p g p1 p2 e (secN_inj (f := f) (by exact_mod_cast e2))
          rw [sforget_other hne]
end Go.Proofs.YtopinlnjdgedeaaDoor
