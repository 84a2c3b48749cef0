/-
  Texts put together: TcV, TcW, TcX, RwIn.
-/
import Derived.Test.YtbeldjijnjgbfaaMg33
import Derived.RangeFuncBound
import Derived.RangeFuncCalls
import Derived.RangeFuncLeaves
import Derived.Shelf.Abstract
import Derived.Shelf.RegionOpen
import Derived.OwnWalkIn
import Derived.TacticsInMore
import Derived.LoopNIn
import Derived.LoopIn
import Derived.Shelf.AbstractIn
import Derived.Test.YtbeldjijnjgbfaaMg25
namespace Go.Proofs.Ytbeldjijnjgbfaa
open Go Go.RowKit Go.Shelf Go.ChangeShapes Go.WideShapes Go.ChangeAt

attribute [local go_sem] Oper.semAt_some

theorem back_any (a : Option Addr) (m c : Nat) (w : World) : Calls Try.prog 46 #[.slice a m c] w fun e w' =>
    e = .returned (.func (.func 60) #[] #[.pointer (some ⟨w.heap.size, 0, none⟩)]) ∧ Below w.heap.size w w' ∧ Box w' w.heap.size 26 #[.slice a m c] := by
  go_enter Try.func46, Try.ntmps46
  go_wp2
  go_ret
  exact ⟨rfl, (Below.refl _ _).alloc (Nat.le_refl _) _, Box.new w 26 #[.slice a m c]⟩
def backA (L : List ByteArray) (k : Nat) : Array Value := #[.int .i64 ((L.length : Int) - 1 - k), .string (L.getD (L.length - 1 - k) noT)]
set_option maxRecDepth 100000 in
set_option maxHeartbeats 2000000 in
theorem back_iter (n l c1 : Nat) (hn : 1 ≤ n) (a : Option Addr) (c : Nat) (L : List ByteArray) (hL : L.length ≤ 100000) (J' : Nat → List Nat → World → Prop) (Jx' : List Nat → World → Prop) (C : List Nat) (W : World) (h0 : J' 0 C W)
    (hb : Box W c1 26 #[.slice a L.length c]) (hc1 : c1 ∉ C) (hs : Sl W Value.string a L) (hsb : ∀ b off, a = some ⟨b, off, none⟩ → b ∉ C)
    (hY : ∀ k C2 W2 ya, k < L.length → J' k C2 W2 → Chg C W W2 → (∀ i ∈ C2, i ∈ C ∨ W.heap.size ≤ i) → ya = backA L k → YieldAt Fence.wide (n - 1) Try.prog l ya W2 fun e W' => (e = .returned (.bool true) ∧ Tod (J' (k + 1)) C2 W2 W') ∨ (e = .returned (.bool false) ∧ Tod Jx' C2 W2 W')) :
    CallsIn Fence.wide n Try.prog 60 #[.func (.yield l) #[] #[], .pointer (some ⟨c1, 0, none⟩)] W fun e W' => (∃ v, e = .returned v) ∧ (Tod (J' L.length) C W W' ∨ Tod Jx' C W W') := by
  have HY := Lib.hid hY
  have H0 := Lib.hid h0
  have HB := Lib.hid hb
  have HC1 := Lib.hid hc1
  have HS := Lib.hid hs
  have HSB := Lib.hid hsb
  have k0 := hb.cell 0 _ rfl
  clear hY h0 hb hc1 hs hsb
  refine callsIn_of_wp Try.func60 rfl trivial ?_ rfl
  simp only [Try.ntmps60, List.size_toArray, List.length_cons, List.length_nil, Nat.reduceAdd, Nat.reduceSub, Array.replicate_succ, Array.replicate_zero, List.push_toArray, List.append_toArray, List.nil_append, List.cons_append]
  gi_wp2
  clear k0
  gi_loopw [3] (fun i wr => ∃ (k : Nat) (C2 : List Nat), k ≤ L.length ∧ i = .int .i64 ((L.length : Int) - 1 - k) ∧ Hid (J' k C2 wr) ∧ Hid (Chg C W wr) ∧ Hid (∀ i ∈ C2, i ∈ C ∨ W.heap.size ≤ i)) (fun i _ => (intOf i + 1).toNat)
  case atStart => exact ⟨0, C, Nat.zero_le _, by go_num, H0, Chg.refl _ _, fun i hi => .inl hi⟩
  case round =>
    obtain ⟨k, C2, hk, rfl, HJ, HC, HM⟩ := hrel
    clear H0
    by_cases hlt : k < L.length
    · obtain ⟨j, hj⟩ : ∃ j, j = L.length - 1 - k := ⟨_, rfl⟩
      have hjl : j < L.length := by omega
      have ej : (L.length : Int) - 1 - (k : Int) = (j : Int) := by omega
      have hyk := HY.out k C2 wr _ hlt HJ.out HC.out HM.out rfl
      unfold backA at hyk
      rw [ej, ← hj] at hyk
      rw [ej]
      have hgd : L.getD j noT = L[j] := by simp [List.getD, hjl]
      rw [hgd] at hyk
      have HYK := Lib.hid hyk
      obtain ⟨b, off, hab, hbl, hcc⟩ := HS.out.get j hjl
      have q0 : wr.cell? ⟨c1, 0, none⟩ = some (.slice (some ⟨b, off, none⟩) L.length c) := by rw [← hab]; exact (HB.out.of (HC.out.block _ HB.out.lt HC1.out)).cell 0 _ rfl
      have q1 : wr.cell? ⟨b, off + j, none⟩ = some (.string L[j]) := (World.cell?_of_block (w := W) (a := ⟨b, off + j, none⟩) (HC.out.block b hbl (HSB.out b off hab))).trans hcc
      have h0j : (0 : Int) ≤ (j : Int) := by omega
      have h1j : (j : Int) < (L.length : Int) := by omega
      have HLT : Hid (k < L.length ∧ j = L.length - 1 - k) := ⟨hlt, hj⟩
      have HCB := Lib.hid hbl
      generalize L[j] = x at *
      clear hyk hgd hab hbl hcc hj hlt ej hk
      have hy := HYK.out
      obtain ⟨fn, tmps, assign, body, hyy, hR⟩ := hy
      gi_wp2
      refine hR.mono ?_
      rintro e w3 (⟨rfl, C3, g1, g2, g3⟩ | ⟨rfl, C3, g1, g2, g3⟩)
      · have HJ3 := Lib.hid g1
        have HC3 : Hid (Chg C W w3) := HC.out.then g2 (fun i hi => HM.out i hi)
        have HM3 : Hid (∀ i ∈ C3, i ∈ C ∨ W.heap.size ≤ i) := fun i hi => by
          rcases g3 i hi with h | h
          · exact HM.out i h
          · exact .inr (Nat.le_trans HC.out.size h)
        clear g1 g2 g3
        gi_wp2
        go_roundw
        case rel => exact ⟨k + 1, C3, HLT.out.1, by have := HLT.out; go_num, HJ3, HC3, HM3⟩
        case measure => simp [intOf]
      · have HFI : Hid (Tod Jx' C W w3) := ⟨C3, g1, HC.out.then g2 (fun i hi => HM.out i hi), fun i hi => by
          rcases g3 i hi with h | h
          · exact HM.out i h
          · exact .inr (Nat.le_trans HC.out.size h)⟩
        clear g1 g2 g3
        gi_wp2
        refine bodyPost_ret (results_none rfl _ _ _) rfl ?_
        exact ⟨⟨_, rfl⟩, .inr HFI.out⟩
    · have hkl : k = L.length := by omega
      have hneg : ¬ (0 : Int) ≤ (L.length : Int) - 1 - (k : Int) := by omega
      have HKL := Lib.hid hkl
      clear hlt hkl hk
      gi_wp2
      go_end0
      exact ⟨⟨_, rfl⟩, .inl ⟨C2, by rw [← HKL.out]; exact HJ.out, HC.out, HM.out⟩⟩
end Go.Proofs.Ytbeldjijnjgbfaa

namespace Go.Proofs.Ytbeldjijnjgbfaa
open Go Go.RowKit Go.ChangeShapes Go.WideShapes Go.ChangeAt

/-- Refs that were loaded, each once. -/
structure SnD (S : StD) (seen : List ByteArray) : Prop where
  nd : seen.Pairwise (· ≠ ·)
  sn : ∀ s ∈ seen, ∃ n, numT s = some n ∧ n < S.l.length
theorem SnD.nil (S : StD) : SnD S [] := ⟨List.Pairwise.nil, fun _s hs => nomatch hs⟩
theorem SnD.len {S : StD} {seen : List ByteArray} (h : SnD S seen) : seen.length ≤ S.l.length := by
  have h1 := below_len S.l.length (seen.map (fun s => (numT s).getD 0)) (by
    refine List.pairwise_map.2 (List.Pairwise.imp_of_mem ?_ h.nd)
    intro a b ha hb hab e
    obtain ⟨n, h3, _⟩ := h.sn a ha
    obtain ⟨m, h4, _⟩ := h.sn b hb
    rw [h3, h4] at e
    simp only [Option.getD_some] at e
    subst e
    exact hab (num_inj h3 h4)) (by
    intro k hk
    obtain ⟨s, hs, rfl⟩ := List.mem_map.1 hk
    obtain ⟨n, h3, h4⟩ := h.sn s hs
    rw [h3]; exact h4)
  rwa [List.length_map] at h1
theorem seenT_iff {seen : List ByteArray} {r : ByteArray} : seenT seen r = true ↔ r ∈ seen := by
  unfold seenT
  rw [List.any_eq_true]
  exact ⟨fun ⟨x, h1, h2⟩ => by have := of_decide_eq_true h2; subst this; exact h1, fun h => ⟨r, h, decide_eq_true rfl⟩⟩
theorem SnD.cons {S : StD} {seen : List ByteArray} {r : ByteArray} {h : Nat} (hs : SnD S seen) (hn : ¬ seenT seen r = true) (hl : (loadN S r h).2 = 0) : SnD S (r :: seen) := by
  obtain ⟨_, t, h2, _⟩ := load_of hl
  obtain ⟨n, h3, h4, _⟩ := get_lt h2
  refine ⟨List.pairwise_cons.2 ⟨fun s hm e => hn (seenT_iff.2 (e ▸ hm)), hs.nd⟩, fun s hm => ?_⟩
  rcases List.mem_cons.1 hm with rfl | hm
  · exact ⟨n, h3, h4⟩
  · exact hs.sn s hm
/-- The map holds what was seen. -/
structure SeR (l : SeenD) (seen : List ByteArray) : Prop where
  has : ∀ r, (findL l r).isSome = seenT seen r
  len : l.length = seen.length
theorem SeR.nil : SeR [] [] := ⟨fun _ => rfl, rfl⟩
theorem SeR.put {l : SeenD} {seen : List ByteArray} {r : ByteArray} (h : SeR l seen) (hn : ¬ (findL l r).isSome = true) : SeR (putL l r ()) (r :: seen) := by
  refine ⟨fun k => ?_, ?_⟩
  · by_cases e : k = r
    · subst e
      rw [putL_same]
      symm
      exact seenT_iff.2 (by simp)
    · rw [putL_other l e, h.has]
      unfold seenT
      rw [List.any_cons]
      have : decide (r = k) = false := decide_eq_false (fun h => e h.symm)
      rw [this, Bool.false_or]
  · have h0 : findL l r = none := by simpa using hn
    rw [putL_new h0, List.length_append, List.length_cons, h.len]
    rfl
/-- The node that is come to. -/
def curN (S : StD) (p : ByteArray × Nat) (seen : List ByteArray) : NodeD × Int := if seenT seen p.1 = true then (nilD, 3) else loadN S p.1 p.2
def kidsN (q : NodeD) (h : Nat) (fr : ByteArray) : List (ByteArray × Nat) := if q.leaf = true then [] else (q.vals.drop (findD q fr).1).map (fun r => (r, h + 1))
theorem once_cur {S : StD} {p : ByteArray × Nat} {l : SeenD} {seen : List ByteArray} (h : SeR l seen) : (onceN S p.1 p.2 l).1 = curN S p seen := by
  unfold onceN curN
  rw [h.has]
  split <;> rfl
theorem nodes_stop {S : StD} {fr : ByteArray} {f : Nat} {p : ByteArray × Nat} {todo : List (ByteArray × Nat)} {seen : List ByteArray} (h : (curN S p seen).2 ≠ 0) : nodesF S fr (f + 1) (p :: todo) seen = [(p.1, curN S p seen)] := by
  rw [nodesF]
  unfold curN at h ⊢
  by_cases hs : seenT seen p.1 = true
  · rw [if_pos hs, if_pos hs]
  · rw [if_neg hs] at h
    rw [if_neg hs, if_neg hs, if_pos h]
theorem nodes_go {S : StD} {fr : ByteArray} {f : Nat} {p : ByteArray × Nat} {todo : List (ByteArray × Nat)} {seen : List ByteArray} (h : (curN S p seen).2 = 0) :
    nodesF S fr (f + 1) (p :: todo) seen = (p.1, curN S p seen) :: nodesF S fr f (kidsN (curN S p seen).1 p.2 fr ++ todo) (p.1 :: seen) := by
  have hs : ¬ seenT seen p.1 = true := fun hs => by unfold curN at h; rw [if_pos hs] at h; cases h
  have e : curN S p seen = loadN S p.1 p.2 := if_neg hs
  rw [e] at h ⊢
  rw [nodesF, if_neg hs, if_neg (by simp [h])]
  rfl
theorem cur_load {S : StD} {p : ByteArray × Nat} {seen : List ByteArray} (h : (curN S p seen).2 = 0) : ¬ seenT seen p.1 = true ∧ curN S p seen = loadN S p.1 p.2 := by
  have hs : ¬ seenT seen p.1 = true := fun hs => by unfold curN at h; rw [if_pos hs] at h; cases h
  exact ⟨hs, if_neg hs⟩
theorem cur_gd (S : StD) (p : ByteArray × Nat) (seen : List ByteArray) : GdN 239 (curN S p seen).1 := by
  unfold curN
  split
  · exact gd_nil _
  · exact load_gd _ _ _
/-- What is still to do: short, not deep. -/
def StkOk : List (ByteArray × Nat) → Prop
  | [] => True
  | p :: r => (r.length + 1 ≤ 255 * p.2 ∧ p.2 ≤ 21 ∧ p.1.size ≤ 65535) ∧ StkOk r
theorem StkOk.len {l : List (ByteArray × Nat)} (h : StkOk l) : l.length ≤ 5355 := by
  cases l with
  | nil => exact Nat.zero_le _
  | cons p r =>
    obtain ⟨⟨h1, h2, _⟩, _⟩ := h
    show r.length + 1 ≤ _
    omega
theorem StkOk.kids : ∀ (L : List ByteArray) (h : Nat) (todo : List (ByteArray × Nat)), L.length ≤ 255 → todo.length + 1 ≤ 255 * h → h ≤ 20 → (∀ r ∈ L, r.size ≤ 65535) → StkOk todo → StkOk (L.map (fun r => (r, h + 1)) ++ todo)
  | [], _, _, _, _, _, _, hs => hs
  | x :: L, h, todo, hl, ht, hh, hz, hs => by
    refine ⟨⟨?_, by show h + 1 ≤ 21; omega, hz x (by simp)⟩, StkOk.kids L h todo (by simp at hl; omega) ht hh (fun r hr => hz r (by simp [hr])) hs⟩
    simp at hl ⊢
    omega
theorem kids_stk {S : StD} {p : ByteArray × Nat} {todo : List (ByteArray × Nat)} {seen : List ByteArray} {fr : ByteArray} (h : StkOk (p :: todo)) (hc : (curN S p seen).2 = 0) : StkOk (kidsN (curN S p seen).1 p.2 fr ++ todo) := by
  obtain ⟨⟨h1, h2, h3⟩, h4⟩ := h
  unfold kidsN
  split
  · exact h4
  · obtain ⟨_, e⟩ := cur_load hc
    have hh : p.2 ≤ 20 := by rw [e] at hc; exact load_h hc
    have hg := (cur_gd S p seen).sm (by decide)
    refine StkOk.kids _ _ _ ?_ h1 hh (fun r hr => hg.sz r (List.mem_append_right _ (List.mem_of_mem_drop hr))) h4
    rw [List.length_drop]
    have := hg.vl
    omega
/-- A mark of a range over a function. -/
def mkD (D : Nat) : Deferred := { target := .collected D, args := #[] }
theorem leaves_marks {F : Fence} {n : Nat} {P : Program} {fn : Func} {tmps : Array Value} {R : Ending → World → Prop} (hr : fn.results = #[]) : ∀ (Ds : List Nat) (W : World), Ds.Pairwise (· ≠ ·) → (∀ D ∈ Ds, W.heap[D]? = some (.deferred (some []))) →
    (∀ W', Chg Ds W W' → R (.returned (.tuple #[])) W') → LeavesInM F n P fn tmps R (Ds.map mkD) .returning W
  | [], W, _, _, h => ⟨_, results_none hr _ _ _, h W (Chg.refl _ _)⟩
  | D :: Ds, W, hd, hw, h => by
    refine ⟨by simp, .inl ⟨D, _, rfl, run_takeDeferred (hw D (by simp)), ?_⟩⟩
    have hp := List.pairwise_cons.1 hd
    have hc := chg_put W D (.deferred none)
    refine leaves_marks hr Ds _ hp.2 (fun D2 hm => ?_) (fun W' hc2 => h W' ((hc.mono (fun k hk => by rw [List.mem_singleton.1 hk]; simp)).trans (hc2.mono (fun k hk => by simp [hk]))))
    exact (World.putObj_heap_other (fun e => hp.1 D2 hm e.symm)).trans (hw D2 (by simp [hm]))
end Go.Proofs.Ytbeldjijnjgbfaa

namespace Go.Proofs.Ytbeldjijnjgbfaa
open Go Go.RowKit Go.Shelf Go.ChangeShapes Go.WideShapes Go.ChangeAt

attribute [local go_sem] Oper.semAt_some

theorem nodes_any (sv : Value) (kb : Nat) (root fr : ByteArray) (w : World) (hs : sv = kpV kb) : Calls Try.prog 28 #[sv, .string root, .string fr] w fun e w' =>
    e = .returned (.func (.func 44) #[] #[.pointer (some ⟨w.heap.size + 1, 0, none⟩), .pointer (some ⟨w.heap.size, 0, none⟩), .pointer (some ⟨w.heap.size + 2, 0, none⟩)]) ∧
    Below w.heap.size w w' ∧ Box w' w.heap.size 62 #[sv] ∧ Box w' (w.heap.size + 1) 9 #[.string root] ∧ Box w' (w.heap.size + 2) 9 #[.string fr] := by
  subst hs
  go_enter Try.func28, Try.ntmps28
  go_wp2
  go_ret
  have b0 := Box.new w 62 #[kpV kb]
  have b1 := Box.new (w.alloc (.cells #[kpV kb] 62)) 9 #[.string root]
  have b2 := Box.new ((w.alloc (.cells #[kpV kb] 62)).alloc (.cells #[.string root] 9)) 9 #[.string fr]
  simp only [size_alloc] at b1 b2
  exact ⟨rfl, (((Below.refl _ _).alloc (Nat.le_refl _) _).alloc (by rw [size_alloc]; omega) _).alloc (by simp only [size_alloc]; omega) _, (b0.alloc _).alloc _, b1.alloc _, b2⟩
/-- What a yield is handed: the node k of the walk. -/
def NodeA (L : List (ByteArray × NodeD × Int)) (k : Nat) (ya : Array Value) (C : List Nat) (W : World) : Prop :=
  ∃ (q : ByteArray × NodeD × Int) (x : NdV), L[k]? = some q ∧ ya = #[.agg #[.string q.1, .bool x.leaf, .slice x.ka x.kn x.kc, .slice x.va x.vn x.vc], .int .i64 q.2.2] ∧ NdZ (· ∉ C) W x q.2.1
/-- A place, as it lies in memory. -/
def kPl : RwK (ByteArray × Nat) := ⟨89, 2, fun p => [.string p.1, .int .i64 (p.2 : Int)]⟩
theorem kPl_ok : RwOk kPl := by
  refine ⟨⟨.agg #[.string ⟨#[]⟩, .int .i64 0], 24, by kernel_rfl, rfl, by decide⟩, by decide, fun _ => rfl, fun x u hu => ?_⟩
  simp only [kPl, List.mem_cons, List.not_mem_nil, or_false] at hu
  rcases hu with rfl | rfl <;> rfl
theorem fixed_ex {_P : Nat → World → Prop} : True := trivial
/-- The walk's own memory: what it stands on, and what is to do. -/
structure NoS (B0 : Nat) (kb : Nat) (F : List Nat) (S : StD) (c1 cs c3 c6 m : Nat) (root fr : ByteArray) (v : Value) (todo : List (ByteArray × Nat)) (l : SeenD) (Z : Nat → Prop) (W : World) : Prop where
  kp : KpF kb S F W
  kz : ∀ k ∈ F, Z k ∧ k < B0
  b1 : Box W c1 9 #[.string root]
  bs : Box W cs 62 #[kpV kb]
  b3 : Box W c3 9 #[.string fr]
  b6 : Box W c6 95 #[v]
  row : Rw kPl W B0 v todo.reverse
  map : MapAt SeS W m l
  z1 : Z c1 ∧ c1 < B0
  zs : Z cs ∧ cs < B0
  z3 : Z c3 ∧ c3 < B0
  z6 : Z c6 ∧ B0 ≤ c6
  zm : Z m ∧ B0 ≤ m
  zr : ∀ k, v.ownBlock = some k → Z k ∧ k ≠ c6 ∧ k ≠ m
  ne : c6 ≠ m
section
variable {B0 kb : Nat} {F : List Nat} {S : StD} {c1 cs c3 c6 m : Nat} {root fr : ByteArray} {v : Value} {todo : List (ByteArray × Nat)} {l : SeenD} {Z Z' : Nat → Prop} {w w' : World} {G : List Nat}
theorem NoS.chg (h : NoS B0 kb F S c1 cs c3 c6 m root fr v todo l Z w) (hc : Chg G w w') (hg : ∀ k, Z k → k ∉ G) : NoS B0 kb F S c1 cs c3 c6 m root fr v todo l Z w' :=
  ⟨(fixed_kp kb S).keep _ _ _ _ h.kp hc (fun k hk => hg k (h.kz k hk).1), h.kz, h.b1.of (hc.block _ h.b1.lt (hg _ h.z1.1)), h.bs.of (hc.block _ h.bs.lt (hg _ h.zs.1)), h.b3.of (hc.block _ h.b3.lt (hg _ h.z3.1)), h.b6.of (hc.block _ h.b6.lt (hg _ h.z6.1)), h.row.chg hc (fun k hk => hg k (h.zr k hk).1), h.map.chg hc (hg _ h.zm.1), h.z1, h.zs, h.z3, h.z6, h.zm, h.zr, h.ne⟩
theorem NoS.mono (h : NoS B0 kb F S c1 cs c3 c6 m root fr v todo l Z w) (hz : ∀ k, k < w.heap.size → Z k → Z' k) : NoS B0 kb F S c1 cs c3 c6 m root fr v todo l Z' w :=
  ⟨h.kp, fun k hk => ⟨hz k (kp_below h.kp k hk) (h.kz k hk).1, (h.kz k hk).2⟩, h.b1, h.bs, h.b3, h.b6, h.row, h.map, ⟨hz _ h.b1.lt h.z1.1, h.z1.2⟩, ⟨hz _ h.bs.lt h.zs.1, h.zs.2⟩, ⟨hz _ h.b3.lt h.z3.1, h.z3.2⟩, ⟨hz _ h.b6.lt h.z6.1, h.z6.2⟩, ⟨hz _ h.map.lt h.zm.1, h.zm.2⟩, fun k hk => ⟨hz k (h.row.lt k hk) (h.zr k hk).1, (h.zr k hk).2⟩, h.ne⟩
theorem NoS.keep (h : NoS B0 kb F S c1 cs c3 c6 m root fr v todo l Z w) (hb : Below w.heap.size w w') : NoS B0 kb F S c1 cs c3 c6 m root fr v todo l Z w' := h.chg (G := []) (Chg.of hb (Nat.le_refl _)) (fun _ _ h => by cases h)
end
end Go.Proofs.Ytbeldjijnjgbfaa

namespace Go.Proofs.Ytbeldjijnjgbfaa
open Go Go.RowKit Go.ChangeShapes Go.WideShapes Go.ChangeAt

theorem wpListIn_rw_big {F : Fence} {n : Nat} {α : Type} {K : RwK α} (hKo : RwOk K) {t : TypeId} (ht : Try.prog.underlying t = some (.slice K.e)) {ops : Array Oper} {rest : List Oper} {o : Oper} {a : Act} {Q : Exit → Act → World → Prop} (W : World) (hgd : o.guard = none) (s x : Operand)
    (ho : o.op = .call { callee := .builtin .append, args := #[s, x], argTypes := #[t, t] })
    (base : Nat) (v : Value) (l : List α) (hs : a.eval s = v) (hb : Rw K W base v l)
    (g c : Nat) (p : α) (hx : a.eval x = .slice (some ⟨g, 0, none⟩) 1 c) (hcell : ∀ j u, (K.f p)[j]? = some u → W.cell? ⟨g, j, none⟩ = some u)
    (hbytes : l.length + 1 ≤ 100000000) (hbase : base ≤ W.heap.size)
    (h : ∀ b' cap w', Rw K w' base (.slice b' (l.length + 1) cap) (l ++ [p]) → W.grownBy w' v.ownBlock → ((Value.slice b' (l.length + 1) cap).ownBlock = v.ownBlock ∨ (Value.slice b' (l.length + 1) cap).ownBlock = some W.heap.size) → wpListIn F n Try.prog ops Q rest (a.put o.dst (.slice b' (l.length + 1) cap)) w') : wpListIn F n Try.prog ops Q (o :: rest) a W := by
  obtain ⟨z, b, hi0, hzc, hb0⟩ := hKo.info
  obtain ⟨i0, hi, hz0, hz1, hz2⟩ := info_parts hi0
  obtain ⟨v', w', hr, hown, hg, _, hob⟩ := run_append_own_at (P := Try.prog) W base t o.type K.e i0 z K.n b ht hi hz0 hz1 hz2 hzc hKo.pos v l.length _ hb ⟨g, 0, none⟩ 1 c (K.f p) (by rw [hKo.len]; omega)
    (fun j u hj => by
      rw [add_plain, Nat.zero_add]
      exact hcell j u hj) (hKo.one p) (by unfold maxLen; omega) (by have : (l.length + 1) * b ≤ 100000000 * 1000 := Nat.mul_le_mul hbytes hb0; omega) hbase
  have hR : Rw K w' base v' (l ++ [p]) := by
    unfold Rw
    rw [List.flatMap_append, List.length_append, List.flatMap_cons, List.flatMap_nil, List.append_nil]
    exact hown
  obtain ⟨b', cap, rfl, _⟩ := hR.form
  rw [List.length_append] at hR hob hr
  refine wpListIn_plain hgd fun K2 hK2 => ?_
  unfold Oper.wpIn
  refine ⟨?_, ?_⟩
  · simp [Oper.about, ho, resolve, Target.leads, Sem.run_pure]
  · rw [Oper.semAt_plain F _ _ (by rw [ho]; intro c hc'; cases hc')]
    rw [List.length_singleton] at hR hob hr
    simp [execOp, ho, resolve, invoke, builtin, hs, hx, hr, Result.andThen]
    exact hK2 _ _ (h b' cap w' hR hg hob)
theorem wpListIn_rw_push {F : Fence} {n : Nat} {α : Type} {K : RwK α} (hKo : RwOk K) {t : TypeId} (ht : Try.prog.underlying t = some (.slice K.e)) {ops : Array Oper} {rest : List Oper} {o : Oper} {a : Act} {Q : Exit → Act → World → Prop} (W : World) (hgd : o.guard = none) (s x : Operand)
    (ho : o.op = .call { callee := .builtin .append, args := #[s, x], argTypes := #[t, t] })
    (base : Nat) (v : Value) (l : List α) (hs : a.eval s = v) (hb : Rw K W base v l)
    (g c : Nat) (p : α) (hx : a.eval x = .slice (some ⟨g, 0, none⟩) 1 c) (hcell : ∀ j u, (K.f p)[j]? = some u → W.cell? ⟨g, j, none⟩ = some u)
    (hbytes : l.length + 1 ≤ 200000) (hbase : base ≤ W.heap.size)
    (h : ∀ b' cap w', Rw K w' base (.slice b' (l.length + 1) cap) (l ++ [p]) → W.grownBy w' v.ownBlock → ((Value.slice b' (l.length + 1) cap).ownBlock = v.ownBlock ∨ (Value.slice b' (l.length + 1) cap).ownBlock = some W.heap.size) → wpListIn F n Try.prog ops Q rest (a.put o.dst (.slice b' (l.length + 1) cap)) w') : wpListIn F n Try.prog ops Q (o :: rest) a W :=
  wpListIn_rw_big hKo ht W hgd s x ho base v l hs hb g c p hx hcell (by omega) hbase h
end Go.Proofs.Ytbeldjijnjgbfaa
