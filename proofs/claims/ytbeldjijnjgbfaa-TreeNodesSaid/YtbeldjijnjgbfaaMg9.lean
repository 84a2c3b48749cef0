/-
  Texts put together: TreeV, TreeW, TreeX, Rows2.
-/
import Derived.Test.YtbeldjijnjgbfaaMg8
import Derived.Test.YtbeldjijnjgbfaaMg0
import Derived.Deep.RegionLaw
import Derived.Maps.AppendAt
namespace Go.Proofs.Ytbeldjijnjgbfaa
open Go.RowKit
attribute [local irreducible] encD decP rawD

theorem seen_iff (l : List ByteArray) (r : ByteArray) : seenT l r = true ↔ r ∈ l := by
  unfold seenT
  rw [List.any_eq_true]
  constructor
  · rintro ⟨x, hx, e⟩
    rw [← of_decide_eq_true e]; exact hx
  · exact fun h => ⟨r, h, decide_eq_true rfl⟩
/-- What a walk tells. -/
structure ToldW (S : StD) (fr : ByteArray) (G : List GhD) (seen : List ByteArray) (L : List (ByteArray × NodeD × Int)) : Prop where
  ok : ∀ x ∈ L, x.2.2 = 0 ∧ x.1 ∉ seen ∧ ∃ i E, (∃ W, TrN S i x.2.1 E W) ∧ (∀ h, h ≤ 20 → loadN S x.1 h = (x.2.1, 0)) ∧ E ≠ []
  pr : L.flatMap (fun x => pairsN x.2.1 fr) = (G.flatMap (·.E)).filter (fun x => !ltK x.1 fr)
  nd : (L.map (·.1)).Nodup
theorem walk_is {S : StD} (fr : ByteArray) : ∀ (f : Nat) (G : List GhD) (seen : List ByteArray), WalkV S G seen → S.l.length + 1 ≤ f + seen.length → ToldW S fr G seen (nodesF S fr f (G.map (·.p)) seen)
  | 0, G, seen, h, hf => absurd h.len (by omega)
  | f + 1, [], seen, h, hf => ⟨(fun x hx => by cases hx), rfl, List.nodup_nil⟩
  | f + 1, g :: G, seen, h, hf => by
    obtain ⟨⟨n, W, hl, ht⟩, hne, hh⟩ := h.is g (List.mem_cons_self ..)
    have hload : loadN S g.p.1 g.p.2 = (n, 0) := hl _ (by omega)
    have heq : nodesF S fr (f + 1) ((g :: G).map (·.p)) seen = (g.p.1, n, 0) :: nodesF S fr f ((if n.leaf = true then [] else (n.vals.drop (findD n fr).1).map (fun r => (r, g.p.2 + 1))) ++ G.map (·.p)) (g.p.1 :: seen) := by
      rw [List.map_cons]
      conv => lhs; unfold nodesF
      rw [if_neg (fun e => h.new ((seen_iff _ _).1 e)), hload]
      dsimp only
      rw [if_neg (fun e => e rfl)]
    rw [heq]
    obtain ⟨p, lv, E⟩ := g
    have key : ∀ (G2 : List GhD) (L : List (ByteArray × NodeD × Int)), ToldW S fr G2 (p.1 :: seen) L → pairsN n fr ++ (G2.flatMap (·.E)).filter (fun x => !ltK x.1 fr) = ((⟨p, lv, E⟩ :: G : List GhD).flatMap (·.E)).filter (fun x => !ltK x.1 fr) → ToldW S fr (⟨p, lv, E⟩ :: G) seen ((p.1, n, 0) :: L) := fun G2 L hL hp => by
      refine ⟨fun x hx => ?_, ?_, ?_⟩
      · rcases List.mem_cons.1 hx with e | e
        · rw [e]; exact ⟨rfl, h.new, lv, E, ⟨W, ht⟩, hl, hne⟩
        · obtain ⟨a, b, c⟩ := hL.ok x e
          exact ⟨a, fun q => b (List.mem_cons_of_mem _ q), c⟩
      · rw [List.flatMap_cons, hL.pr]; exact hp
      · rw [List.map_cons]
        refine List.nodup_cons.2 ⟨fun q => ?_, hL.nd⟩
        obtain ⟨x, hx, e⟩ := List.mem_map.1 q
        exact (hL.ok x hx).2.1 (by rw [e]; exact List.mem_cons_self ..)
    cases lv with
    | zero =>
      obtain ⟨h1, h2, h3, _⟩ := ht
      have hlf : n.leaf = true := by rw [h1]; rfl
      rw [if_pos hlf, List.nil_append]
      refine key G _ (walk_is fr f G _ h.leaf (by rw [List.length_cons]; omega)) ?_
      rw [List.flatMap_cons, List.filter_append]
      congr 1
      unfold pairsN
      rw [if_pos hlf, h1]
      show ((E.map (·.1)).zip (E.map (·.2))).filter _ = _
      rw [zip_maps]
    | succ i =>
      obtain ⟨C, h1, hC, h4, _, _⟩ := ht.inC
      have h4 : E = prC C := h4
      have hCl : (C.map (·.1)).length ≤ 255 := by rw [List.length_map]; exact hC.len
      obtain ⟨A, c, B, hc1, hc2, hc3, hc4⟩ := find_child hC.ok hCl (by simpa using hC.ne) fr
      obtain ⟨P, x, Q, rfl, rfl, rfl, rfl⟩ := child_split hc1
      have hlf : n.leaf = false := by rw [h1]; rfl
      have hkids : (n.vals.drop (findD n fr).1).map (fun r => (r, p.2 + 1)) = (kidsG (p.2 + 1) i (x :: Q)).map (·.p) := by
        rw [h1, hc2]
        unfold ofE kidsG
        simp
      rw [if_neg (by rw [hlf]; decide), hkids, ← List.map_append]
      refine key (kidsG (p.2 + 1) i (x :: Q) ++ G) _ (walk_is fr f _ _ (h.inner rfl hC h4) (by rw [List.length_cons]; omega)) ?_
      have hpn : pairsN n fr = [] := by unfold pairsN; rw [if_neg (by rw [hlf]; decide)]
      have hkE : (kidsG (p.2 + 1) i (x :: Q)).flatMap (·.E) = prC (x :: Q) := by unfold kidsG prC; rw [List.flatMap_map]
      have hlow : (prC P).filter (fun x => !ltK x.1 fr) = [] := by
        refine List.filter_eq_nil_iff.2 (fun z hz => ?_)
        obtain ⟨d, hd, hzd⟩ := mem_prC hz
        have h9 := (List.pairwise_append.1 hC.pw).2.2 d hd x (List.mem_cons_self ..) z hzd
        have h8 : ltK fr x.1.1 = false := by
          rcases hc4 with e | e
          · have hP : P = [] := by simpa using e
            rw [hP] at hd; cases hd
          · exact e
        rw [lt_via h9 h8]
        decide
      rw [hpn, List.nil_append, List.flatMap_append, hkE, List.flatMap_cons, List.filter_append, List.filter_append, h4, prC_app, List.filter_append, hlow, List.nil_append]
end Go.Proofs.Ytbeldjijnjgbfaa

namespace Go.Proofs.Ytbeldjijnjgbfaa
open Go.RowKit
attribute [local irreducible] encD decP rawD

theorem walk_root {S : StD} {root : ByteArray} {i : Nat} {E : List Ent} {W : Nat} (h : RootT S root i E W) (hi : i < 20) (fr : ByteArray) : ∃ G : List GhD, ToldW S fr G [] (nodesT S root fr) ∧ G.flatMap (·.E) = E := by
  rcases h with ⟨rfl, rfl, _, _⟩ | ⟨h1, h2, n, h3, h4⟩
  · exact ⟨[], ⟨(fun x hx => by cases hx), rfl, List.nodup_nil⟩, rfl⟩
  · refine ⟨[⟨(root, 1), i, E⟩], ?_, by simp⟩
    have hw : WalkV S [⟨(root, 1), i, E⟩] [] := ⟨fun g hg => by
      rw [List.mem_singleton.1 hg]
      exact ⟨⟨n, W, h3, h4⟩, h2, by show 1 + i ≤ 20; omega⟩, List.pairwise_singleton .., (fun s hs => by cases hs), List.nodup_nil⟩
    have e : nodesT S root fr = nodesF S fr (S.l.length + 2) ([⟨(root, 1), i, E⟩].map (fun g : GhD => g.p)) [] := if_neg (by omega)
    rw [e]
    exact walk_is fr _ _ _ hw (by simp)
theorem scanL_is {fr : ByteArray} {many : Nat} : ∀ (L : List (ByteArray × NodeD × Int)) (acc : List Ent), (∀ x ∈ L, x.2.2 = 0) → acc.length < many → scanL fr many L acc = ((acc ++ L.flatMap (fun x => pairsN x.2.1 fr)).take many, 0)
  | [], acc, _, h => by
    unfold scanL
    rw [List.flatMap_nil, List.append_nil, List.take_of_length_le (by omega)]
  | x :: r, acc, h, ha => by
    unfold scanL
    rw [if_neg (fun e => e (h x (List.mem_cons_self ..)))]
    by_cases hm : many ≤ (acc ++ pairsN x.2.1 fr).length
    · rw [if_pos hm, List.flatMap_cons, ← List.append_assoc, List.take_append_of_le_length hm]
    · rw [if_neg hm, scanL_is r _ (fun y hy => h y (List.mem_cons_of_mem _ hy)) (by omega), List.flatMap_cons, List.append_assoc]
theorem scan_is {S : StD} {root : ByteArray} {i : Nat} {E : List Ent} {W : Nat} (h : RootT S root i E W) (hi : i < 20) (fr : ByteArray) (many : Int) : scanT S root fr many = ((E.filter (fun x => !ltK x.1 fr)).take many.toNat, 0) := by
  unfold scanT
  by_cases hm : many < 1
  · rw [if_pos hm, show many.toNat = 0 from by omega, List.take_zero]
  · obtain ⟨G, hG, hE⟩ := walk_root h hi fr
    rw [if_neg hm, scanL_is _ _ (fun x hx => (hG.ok x hx).1) (by show 0 < many.toNat; omega), List.nil_append, hG.pr, hE]
theorem refsL_is : ∀ (L : List (ByteArray × NodeD × Int)) (acc : List ByteArray), (∀ x ∈ L, x.2.2 = 0) → refsL L acc = (acc ++ L.map (·.1), 0)
  | [], acc, _ => by unfold refsL; rw [List.map_nil, List.append_nil]
  | x :: r, acc, h => by
    unfold refsL
    rw [if_neg (fun e => e (h x (List.mem_cons_self ..))), refsL_is r _ (fun y hy => h y (List.mem_cons_of_mem _ hy)), List.map_cons, List.append_assoc]
    rfl
theorem refs_is {S : StD} {root : ByteArray} {i : Nat} {E : List Ent} {W : Nat} (h : RootT S root i E W) (hi : i < 20) : ∃ R, refsT S root = (R, 0) ∧ R.Nodup ∧ ∀ r ∈ R, ∃ j F, AtR S r j F ∧ F ≠ [] := by
  obtain ⟨G, hG, _⟩ := walk_root h hi noT
  refine ⟨_, by unfold refsT; rw [refsL_is _ _ (fun x hx => (hG.ok x hx).1), List.nil_append], hG.nd, fun r hr => ?_⟩
  obtain ⟨x, hx, rfl⟩ := List.mem_map.1 hr
  obtain ⟨_, _, j, F, ⟨V, hV⟩, hl, hF⟩ := hG.ok x hx
  exact ⟨j, F, ⟨x.2.1, V, hl, hV⟩, hF⟩
end Go.Proofs.Ytbeldjijnjgbfaa

namespace Go.Proofs.Ytbeldjijnjgbfaa
open Go.RowKit
attribute [local irreducible] encD decP rawD

/-- The store with another room. -/
def reS (S : StD) (R : Int) : StD := { S with room := R }
/-- A call failed for want of room, or it went as with more room. -/
def OrS {α : Type} (R : Int) (a b : (α × Int) × StD) : Prop := a.1.2 = 6 ∨ b = (a.1, reS a.2 R)
theorem get_re (S : StD) (R : Int) (r : ByteArray) : getS (reS S R) r = getS S r := rfl
theorem load_re (S : StD) (R : Int) (r : ByteArray) (h : Nat) : loadN (reS S R) r h = loadN S r h := rfl
theorem down_re (S : StD) (R : Int) (key : ByteArray) : ∀ (f : Nat) (above : List StepD) (r : ByteArray), downN (reS S R) key f above r = downN S key f above r
  | 0, _, _ => rfl
  | f + 1, above, r => by
    unfold downN
    simp only [load_re, down_re S R key f]
theorem downT_re (S : StD) (R : Int) (root key : ByteArray) : downT (reS S R) root key = downT S root key := by
  unfold downT
  rw [down_re]
theorem put_or (S : StD) {R : Int} (hR : S.room ≤ R) (n : NodeD) : OrS R (putN S n) (putN (reS S R) n) := by
  by_cases hc : chkN n = 0
  · by_cases hr : S.room ≤ (S.l.length : Int)
    · left; rw [put_full hc hr]
    · right
      have e1 := put_ok (S := S) hc (by omega)
      have e2 := put_ok (S := reS S R) (n := n) hc (show (S.l.length : Int) < R by omega)
      rw [e1, e2]
      rfl
  · right
    unfold putN
    rw [if_pos hc, if_pos hc]
theorem put_room (S : StD) (n : NodeD) : (putN S n).2.room = S.room := (put_grow S n).1
theorem keepL_or {R : Int} : ∀ (ps : List NodeD) (S : StD) (acc : List Ent), S.room ≤ R → OrS R (keepL S ps acc) (keepL (reS S R) ps acc)
  | [], S, acc, _ => .inr rfl
  | p :: r, S, acc, hR => by
    unfold keepL
    rcases put_or S hR p with h | h
    · left
      rw [if_pos (by rw [h]; decide)]
      exact h
    · rw [h]
      dsimp only
      by_cases hz : (putN S p).1.2 = 0
      · rw [if_neg (fun e => e hz), if_neg (fun e => e hz)]
        exact keepL_or r _ _ (by rw [put_room]; exact hR)
      · rw [if_pos hz, if_pos hz]
        exact .inr rfl
theorem keepL_grow : ∀ (ps : List NodeD) (S : StD) (acc : List Ent), GrowS S (keepL S ps acc).2
  | [], S, acc => GrowS.refl S
  | p :: r, S, acc => by
    unfold keepL
    split
    · exact put_grow S p
    · exact (put_grow S p).trans (keepL_grow r _ _)
theorem keep_grow (S : StD) (n : NodeD) : GrowS S (keepN S n).2 := keepL_grow _ _ _
theorem keep_or (S : StD) {R : Int} (hR : S.room ≤ R) (n : NodeD) : OrS R (keepN S n) (keepN (reS S R) n) := keepL_or _ _ _ hR
theorem top_or (S : StD) {R : Int} (hR : S.room ≤ R) (l : List Ent) (h : Nat) : OrS R (topN S l h) (topN (reS S R) l h) := by
  match l with
  | [] => exact .inr rfl
  | [p] => exact .inr rfl
  | p :: x :: r =>
    show OrS R (if h = 20 then ((noT, 3), S) else putN S _) (if h = 20 then ((noT, 3), reS S R) else putN (reS S R) _)
    by_cases hh : h = 20
    · rw [if_pos hh, if_pos hh]; exact .inr rfl
    · rw [if_neg hh, if_neg hh]; exact put_or S hR _
theorem top_grow (S : StD) (l : List Ent) (h : Nat) : GrowS S (topN S l h).2 := by
  match l with
  | [] => exact GrowS.refl S
  | [p] => exact GrowS.refl S
  | p :: x :: r =>
    show GrowS S (if h = 20 then ((noT, (3 : Int)), S) else putN S _).2
    split
    · exact GrowS.refl S
    · exact put_grow S _
theorem up_grow : ∀ (st : List StepD) (S : StD) (n : NodeD) (h : Nat), GrowS S (upR st S n h).2
  | [], S, n, h => by
    unfold upR
    split
    · exact GrowS.refl S
    · split
      · exact keep_grow S n
      · exact (keep_grow S n).trans (top_grow _ _ _)
  | s :: r, S, n, h => by
    unfold upR
    split
    · exact keep_grow S n
    · exact (keep_grow S n).trans (up_grow r _ _ _)
theorem up_or {R : Int} : ∀ (st : List StepD) (S : StD) (n : NodeD) (h : Nat), S.room ≤ R → OrS R (upR st S n h) (upR st (reS S R) n h)
  | [], S, n, h, hR => by
    unfold upR
    by_cases h1 : n.leaf = false ∧ n.keys.length = 1
    · rw [if_pos h1, if_pos h1]; exact .inr rfl
    · rw [if_neg h1, if_neg h1]
      rcases keep_or S hR n with e | e
      · left; rw [if_pos (by rw [e]; decide)]; exact e
      · rw [e]
        dsimp only
        by_cases hz : (keepN S n).1.2 = 0
        · rw [if_neg (fun e => e hz), if_neg (fun e => e hz)]
          exact top_or _ (by rw [(keep_grow S n).1]; exact hR) _ _
        · rw [if_pos hz, if_pos hz]; exact .inr rfl
  | s :: r, S, n, h, hR => by
    unfold upR
    rcases keep_or S hR n with e | e
    · left; rw [if_pos (by rw [e]; decide)]; exact e
    · rw [e]
      dsimp only
      by_cases hz : (keepN S n).1.2 = 0
      · rw [if_neg (fun e => e hz), if_neg (fun e => e hz)]
        exact up_or r _ _ _ (by rw [(keep_grow S n).1]; exact hR)
      · rw [if_pos hz, if_pos hz]; exact .inr rfl
theorem putT_or (S : StD) {R : Int} (hR : S.room ≤ R) (root key val : ByteArray) : OrS R (putT S root key val) (putT (reS S R) root key val) := by
  unfold putT
  rw [downT_re]
  split
  · exact .inr rfl
  · split
    · exact .inr rfl
    · exact up_or _ _ _ _ hR
theorem delT_or (S : StD) {R : Int} (hR : S.room ≤ R) (root key : ByteArray) : OrS R (delT S root key) (delT (reS S R) root key) := by
  unfold delT
  rw [downT_re]
  split
  · exact .inr rfl
  · split
    · exact .inr rfl
    · exact up_or _ _ _ _ hR
theorem putT_grow (S : StD) (root key val : ByteArray) : GrowS S (putT S root key val).2 := by
  unfold putT
  split
  · exact GrowS.refl S
  · split
    · exact GrowS.refl S
    · exact up_grow _ _ _ _
theorem delT_grow (S : StD) (root key : ByteArray) : GrowS S (delT S root key).2 := by
  unfold delT
  split
  · exact GrowS.refl S
  · split
    · exact GrowS.refl S
    · exact up_grow _ _ _ _
end Go.Proofs.Ytbeldjijnjgbfaa

namespace Go.Proofs.Ytbeldjijnjgbfaa
open Go.RowKit

theorem flat_len {α : Type} (f : α → List Value) (n : Nat) (hn : ∀ x, (f x).length = n) : ∀ l : List α, (l.flatMap f).length = l.length * n
  | [] => by simp
  | x :: r => by rw [List.flatMap_cons, List.length_append, hn, flat_len f n hn r, List.length_cons, Nat.add_mul]; omega

theorem flat_get {α : Type} (f : α → List Value) (n : Nat) (hn : ∀ x, (f x).length = n) : ∀ (l : List α) (i : Nat) (x : α), l[i]? = some x → ∀ j, j < n → (l.flatMap f)[i * n + j]? = (f x)[j]?
  | [], i, x, h, _, _ => by simp at h
  | y :: r, 0, x, h, j, hj => by
    simp only [List.getElem?_cons_zero, Option.some.injEq] at h
    subst h
    rw [List.flatMap_cons, Nat.zero_mul, Nat.zero_add, List.getElem?_append_left (by rw [hn]; exact hj)]
  | y :: r, i + 1, x, h, j, hj => by
    simp only [List.getElem?_cons_succ] at h
    have h1 := flat_get f n hn r i x h j hj
    rw [List.flatMap_cons, List.getElem?_append_right (by rw [hn, Nat.add_mul]; omega), hn, ← h1]
    congr 1
    rw [Nat.add_mul]; omega

/-- Whatever holds of the row's block holds of the row. -/
theorem ownsRow_of {w w' : World} {base : Nat} {e : TypeId} {sz : Nat} {v : Value} {n : Nat} {xs : List Value} (h : w.ownsRow base e sz v n xs) (hb : ∀ k, v.ownBlock = some k → k < w.heap.size → w'.heap[k]? = w.heap[k]?) : w'.ownsRow base e sz v n xs := by
  refine ⟨h.1, ?_⟩
  rcases h.2 with ⟨rfl, h0⟩ | ⟨g, cap, cur, rfl, hg, hh, h3⟩
  · exact .inl ⟨rfl, h0⟩
  · exact .inr ⟨g, cap, cur, rfl, hg, by rw [hb g rfl (lt_of_block hh)]; exact hh, h3⟩
theorem ownsRow_lt {w : World} {base : Nat} {e : TypeId} {sz : Nat} {v : Value} {n : Nat} {xs : List Value} (h : w.ownsRow base e sz v n xs) (k : Nat) (hk : v.ownBlock = some k) : k < w.heap.size := by
  rcases h.2 with ⟨rfl, h0⟩ | ⟨g, cap, cur, rfl, hg, hh, h3⟩
  · cases hk
  · simp [Value.ownBlock] at hk; subst hk; exact lt_of_block hh
end Go.Proofs.Ytbeldjijnjgbfaa
