/-
  Package tree: nodes, the walk.
-/
import Derived.Test.YtbeldjijnjgbfaaMg34
import Derived.Deep.DeepMust
namespace Go.Proofs.Ytbeldjijnjgbfaa
open Go Go.RowKit Go.Shelf Go.ChangeShapes Go.WideShapes Go.ChangeAt

attribute [local go_sem] Oper.semAt_some

/-- How many were seen, as memory tells it. -/
theorem mapLen_ex (m : Nat) : ∃ f : World → Nat, ∀ w l, MapAt SeS w m l → f w = l.length := by
  refine ⟨fun w => match (Builtin.len_ #[SeS.t] 3 #[.map (some m)]).run Try.prog w with
    | .ok (.int _ n) _ => n.toNat
    | _ => 0, fun w l h => ?_⟩
  show (match (Builtin.len_ #[SeS.t] 3 #[.map (some m)]).run Try.prog w with
    | .ok (.int _ n) _ => n.toNat
    | _ => 0) = _
  rw [h.len 3]
  rfl
theorem Rw.lit {α : Type} {K : RwK α} (hK : RwOk K) (w : World) (x : α) {cs : Array Value} (hc : cs.toList = K.f x) : Rw K (w.alloc (.cells cs K.e (0, 0))) w.heap.size (.slice (some ⟨w.heap.size, 0, none⟩) 1 1) [x] := by
  have hl : cs.size = K.n := by rw [← hK.len x, ← hc, Array.length_toList]
  refine ⟨by simp [hK.len], .inr ⟨w.heap.size, 1, cs, rfl, Nat.le_refl _, (MapKept.heap_alloc w _).1, Nat.le_refl _, by unfold maxLen; omega, by omega, ?_⟩⟩
  simp only [List.length_singleton, Nat.one_mul, List.flatMap_cons, List.flatMap_nil, List.append_nil]
  rw [hc, List.take_of_length_le (by rw [hK.len]; exact Nat.le_refl _)]
theorem NoS.setv {B0 kb : Nat} {F : List Nat} {S : StD} {c1 cs c3 c6 m : Nat} {root fr : ByteArray} {v v' : Value} {todo todo' : List (ByteArray × Nat)} {l : SeenD} {Z : Nat → Prop} {w : World} (h : NoS B0 kb F S c1 cs c3 c6 m root fr v todo l Z w) (hr : Rw kPl w B0 v' todo'.reverse) (hz : ∀ k, v'.ownBlock = some k → Z k ∧ k ≠ c6 ∧ k ≠ m) :
    NoS B0 kb F S c1 cs c3 c6 m root fr v' todo' l Z (w.setCell ⟨c6, 0, none⟩ v') := by
  have hc : Chg [c6] w (w.setCell ⟨c6, 0, none⟩ v') := Chg.only (Only.set c6 0 w v')
  have lo : ∀ k, k < B0 → k ∉ [c6] := fun k hk hm => by rw [List.mem_singleton] at hm; have := h.z6.2; omega
  exact ⟨(fixed_kp kb S).keep _ _ _ _ h.kp hc (fun k hk => lo k (h.kz k hk).2), h.kz, h.b1.of (hc.block _ h.b1.lt (lo _ h.z1.2)), h.bs.of (hc.block _ h.bs.lt (lo _ h.zs.2)), h.b3.of (hc.block _ h.b3.lt (lo _ h.z3.2)), h.b6.set 0 v', hr.chg hc (fun k hk hm => by rw [List.mem_singleton] at hm; exact (hz k hk).2.1 hm), h.map.chg hc (fun hm => by rw [List.mem_singleton] at hm; exact h.ne hm.symm), h.z1, h.zs, h.z3, h.z6, h.zm, hz, h.ne⟩
theorem NoS.setm {B0 kb : Nat} {F : List Nat} {S : StD} {c1 cs c3 c6 m : Nat} {root fr : ByteArray} {v : Value} {todo : List (ByteArray × Nat)} {l l' : SeenD} {Z : Nat → Prop} {w w' : World} (h : NoS B0 kb F S c1 cs c3 c6 m root fr v todo l Z w) (hc : Chg [m] w w') (hm : MapAt SeS w' m l') :
    NoS B0 kb F S c1 cs c3 c6 m root fr v todo l' Z w' := by
  have lo : ∀ k, k < B0 → k ∉ [m] := fun k hk hm => by rw [List.mem_singleton] at hm; have := h.zm.2; omega
  exact ⟨(fixed_kp kb S).keep _ _ _ _ h.kp hc (fun k hk => lo k (h.kz k hk).2), h.kz, h.b1.of (hc.block _ h.b1.lt (lo _ h.z1.2)), h.bs.of (hc.block _ h.bs.lt (lo _ h.zs.2)), h.b3.of (hc.block _ h.b3.lt (lo _ h.z3.2)), h.b6.of (hc.block _ h.b6.lt (by simpa using h.ne)), h.row.chg hc (fun k hk hm => by rw [List.mem_singleton] at hm; exact (h.zr k hk).2.2 hm), hm, h.z1, h.zs, h.z3, h.z6, h.zm, h.zr, h.ne⟩
/-- What is to do grows by a node's refs, the last one first. -/
def PlJ (m c6 : Nat) (l0 K : List (ByteArray × Nat)) (k : Nat) (C : List Nat) (W : World) : Prop :=
  ∃ v, C = c6 :: v.ownBlock.toList ∧ Box W c6 95 #[v] ∧ Rw kPl W m v (l0 ++ K.take k) ∧ v.ownBlock ≠ some c6 ∧ v.ownBlock ≠ some m
theorem fixed_pl (m c6 : Nat) (l0 K : List (ByteArray × Nat)) (k : Nat) : Fixed (PlJ m c6 l0 K k) := by
  refine ⟨?_, ?_⟩
  · rintro G S w1 w2 ⟨v, rfl, h1, h2, h3, h4⟩ hc hn
    exact ⟨v, rfl, h1.of (hc.block _ h1.lt (hn _ (by simp))), h2.chg hc (fun k hk => hn k (by simp [hk])), h3, h4⟩
  · rintro G w ⟨v, rfl, h1, h2, h3, h4⟩ k hk
    rcases List.mem_cons.1 hk with rfl | hk
    · exact h1.lt
    · exact h2.lt k (by simpa using hk)
theorem fixed_false : Fixed (fun (_ : List Nat) (_ : World) => False) := ⟨fun _ _ _ _ h _ _ => h.elim, fun _ _ h => h.elim⟩
theorem NoS.reset {B0 kb : Nat} {F : List Nat} {S : StD} {c1 cs c3 c6 m : Nat} {root fr : ByteArray} {v v' : Value} {todo todo' : List (ByteArray × Nat)} {l : SeenD} {Z : Nat → Prop} {w w' : World} (h : NoS B0 kb F S c1 cs c3 c6 m root fr v todo l Z w) (hc : Chg (c6 :: v.ownBlock.toList) w w') (hb : Box w' c6 95 #[v']) (hr : Rw kPl w' B0 v' todo'.reverse) (hz : ∀ k, v'.ownBlock = some k → Z k ∧ k ≠ c6 ∧ k ≠ m) :
    NoS B0 kb F S c1 cs c3 c6 m root fr v' todo' l Z w' := by
  have lo : ∀ k, k < B0 → k ∉ c6 :: v.ownBlock.toList := fun k hk hm => by
    rcases List.mem_cons.1 hm with rfl | hm
    · have := h.z6.2; omega
    · have := h.row.own_block k (by simpa using hm); omega
  have lm : m ∉ c6 :: v.ownBlock.toList := fun hm => by
    rcases List.mem_cons.1 hm with e | hm
    · exact h.ne e.symm
    · exact (h.zr m (by simpa using hm)).2.2 rfl
  exact ⟨(fixed_kp kb S).keep _ _ _ _ h.kp hc (fun k hk => lo k (h.kz k hk).2), h.kz, h.b1.of (hc.block _ h.b1.lt (lo _ h.z1.2)), h.bs.of (hc.block _ h.bs.lt (lo _ h.zs.2)), h.b3.of (hc.block _ h.b3.lt (lo _ h.z3.2)), hb, hr, h.map.chg hc lm, h.z1, h.zs, h.z3, h.z6, h.zm, hz, h.ne⟩
/-- What stands between two rounds of the walk. -/
structure NoR (B0 kb : Nat) (F : List Nat) (S : StD) (c1 cs c3 c6 m : Nat) (root fr : ByteArray) (J' : Nat → List Nat → World → Prop) (L : List (ByteArray × NodeD × Int)) (C : List Nat) (W0 : World) (Ds : List Nat) (k : Nat) (C2 : List Nat) (todo : List (ByteArray × Nat)) (seen : List ByteArray) (lm : SeenD) (v : Value) (W : World) : Prop where
  no : NoS B0 kb F S c1 cs c3 c6 m root fr v todo lm (· ∉ C2) W
  j : J' k C2 W
  ch : Chg C W0 W
  me : ∀ i ∈ C2, i ∈ C ∨ W0.heap.size ≤ i
  se : SeR lm seen
  sn : SnD S seen
  st : StkOk todo
  fu : ∃ f, f + seen.length = S.l.length + 2 ∧ L.drop k = nodesF S fr f todo seen
  kl : k ≤ L.length
  nd : Ds.Pairwise (· ≠ ·)
  ds : ∀ D ∈ Ds, W.heap[D]? = some (.deferred (some [])) ∧ D ∉ C2 ∧ B0 ≤ D ∧ D ≠ c6 ∧ D ≠ m ∧ v.ownBlock ≠ some D
set_option maxRecDepth 100000 in
set_option maxHeartbeats 8000000 in
theorem nodes_iter (n l : Nat) (hn : 3 ≤ n) (kb : Nat) (F : List Nat) (S : StD) (root fr : ByteArray) (c1 cs c3 : Nat) (hroot : root.size ≤ 65535) (hfr : fr.size ≤ maxLen) (J' : Nat → List Nat → World → Prop) (Jx' : List Nat → World → Prop) (hfJ : ∀ k, Fixed (J' k)) (hfX : Fixed Jx') (C : List Nat) (W : World) (h0 : J' 0 C W)
    (hk : KpF kb S F W) (hF : ∀ k ∈ F, k ∉ C) (h1 : Box W c1 9 #[.string root]) (h1C : c1 ∉ C) (h2 : Box W cs 62 #[kpV kb]) (h2C : cs ∉ C) (h3 : Box W c3 9 #[.string fr]) (h3C : c3 ∉ C)
    (L : List (ByteArray × NodeD × Int)) (hL : L = nodesT S root fr)
    (hY : ∀ k C2 W2 ya, k < L.length → J' k C2 W2 → Chg C W W2 → (∀ i ∈ C2, i ∈ C ∨ W.heap.size ≤ i) → NodeA L k ya C2 W2 → YieldAt Fence.wide (n - 1) Try.prog l ya W2 fun e W' => (e = .returned (.bool true) ∧ Tod (J' (k + 1)) C2 W2 W') ∨ (e = .returned (.bool false) ∧ Tod Jx' C2 W2 W')) :
    CallsIn Fence.wide n Try.prog 44 #[.func (.yield l) #[] #[], .pointer (some ⟨c1, 0, none⟩), .pointer (some ⟨cs, 0, none⟩), .pointer (some ⟨c3, 0, none⟩)] W fun e W' => (∃ v, e = .returned v) ∧ (Tod (J' L.length) C W W' ∨ Tod Jx' C W W') := by
  have HY := Lib.hid hY
  have H0 := Lib.hid h0
  have HFJ := Lib.hid hfJ
  have HFX := Lib.hid hfX
  have HK := Lib.hid hk
  have HFC := Lib.hid hF
  have B1 := Lib.hid h1
  have B2 := Lib.hid h2
  have B3 := Lib.hid h3
  have HCC := Lib.hid (And.intro h1C (And.intro h2C h3C))
  have HFR := Lib.hid hfr
  have HRT := Lib.hid hroot
  have HN := Lib.hid hn
  have HLQ := Lib.hid hL
  have k1 := h1.cell 0 _ rfl
  clear hY h0 hfJ hfX hk hF h1 h1C h2 h2C h3 h3C hfr hL hn hroot
  refine callsIn_of_wp_marks Try.func44 rfl trivial ?_ rfl
  simp only [Try.ntmps44, List.size_toArray, List.length_cons, List.length_nil, Nat.reduceAdd, Nat.reduceSub, Array.replicate_succ, Array.replicate_zero, List.push_toArray, List.append_toArray, List.nil_append, List.cons_append]
  by_cases hr0 : root.size = 0
  · have hLE : L = [] := HLQ.out.trans (if_pos hr0)
    have := str_nil hr0
    subst this
    clear hr0
    gi_wp2
    refine ⟨_, results_none rfl _ _ _, ⟨_, rfl⟩, .inl ?_⟩
    rw [hLE]
    exact ⟨C, H0.out, Chg.refl _ _, fun k hk => .inl hk⟩
  · obtain ⟨g1, g2⟩ := str_some root (by omega)
    have hmm := @run_makeMap Try.prog
    have k1a : ∀ o, (W.alloc o).cell? ⟨c1, 0, none⟩ = some (.string root) := fun o => (B1.out.alloc o).cell 0 _ rfl
    have HR0 := Lib.hid hr0
    clear hr0
    gi_wp2_with fail
    obtain ⟨m, hm⟩ : ∃ m, m = W.heap.size := ⟨_, rfl⟩
    have HMW := Lib.hid hm
    rw [← hm]
    obtain ⟨w1, hw1⟩ : ∃ w1, w1 = ((W.alloc (.map #[] 0)).alloc (.cells #[.string root, .int .i64 1] 89 (0, 0))).alloc (.cells #[.slice (some ⟨m + 1, 0, none⟩) 1 1] 95 (0, 0)) := ⟨_, rfl⟩
    have HSTART : Hid (NoR m kb F S c1 cs c3 (m + 1 + 1) m root fr J' L C W [] 0 C [(root, 1)] [] [] (.slice (some ⟨m + 1, 0, none⟩) 1 1) w1) := by
      have hmap : MapAt SeS (W.alloc (.map #[] 0)) m [] := by rw [hm]; exact MapAt.made SeS W
      have hs1 : (W.alloc (.map #[] 0)).heap.size = m + 1 := by rw [size_alloc, hm]
      have hrow := Rw.lit kPl_ok (W.alloc (.map #[] 0)) (root, 1) (cs := #[.string root, .int .i64 1]) rfl
      rw [hs1] at hrow
      have hs2 : ((W.alloc (.map #[] 0)).alloc (.cells #[.string root, .int .i64 1] 89 (0, 0))).heap.size = m + 1 + 1 := by rw [size_alloc, hs1]
      have hbox := Box.new ((W.alloc (.map #[] 0)).alloc (.cells #[.string root, .int .i64 1] 89 (0, 0))) 95 #[.slice (some ⟨m + 1, 0, none⟩) 1 1]
      rw [hs2] at hbox
      have e1 : Below W.heap.size W (W.alloc (.map #[] 0)) := (Below.refl _ _).alloc (Nat.le_refl _) _
      have e2 : Below (W.alloc (.map #[] 0)).heap.size (W.alloc (.map #[] 0)) ((W.alloc (.map #[] 0)).alloc (.cells #[.string root, .int .i64 1] 89 (0, 0))) := (Below.refl _ _).alloc (Nat.le_refl _) _
      have e3 : Below ((W.alloc (.map #[] 0)).alloc (.cells #[.string root, .int .i64 1] 89 (0, 0))).heap.size ((W.alloc (.map #[] 0)).alloc (.cells #[.string root, .int .i64 1] 89 (0, 0))) w1 := by rw [hw1]; exact (Below.refl _ _).alloc (Nat.le_refl _) _
      have hb : Below W.heap.size W w1 := e1.trans ((e2.mono e1.size).trans (e3.mono (Nat.le_trans e1.size e2.size)))
      have hcl := (HFJ.out 0).lt _ _ H0.out
      refine ⟨⟨HK.out.keep hb, fun k hk => ⟨HFC.out k hk, by rw [hm]; exact kp_below HK.out k hk⟩, B1.out.keep hb B1.out.lt, B2.out.keep hb B2.out.lt, B3.out.keep hb B3.out.lt, by rw [hw1]; exact hbox, ?_, (hmap.keep e2).keep e3, ⟨HCC.out.1, by rw [hm]; exact B1.out.lt⟩, ⟨HCC.out.2.1, by rw [hm]; exact B2.out.lt⟩, ⟨HCC.out.2.2, by rw [hm]; exact B3.out.lt⟩, ⟨fun hx => by have := hcl _ hx; omega, by omega⟩, ⟨fun hx => by have := hcl _ hx; omega, Nat.le_refl _⟩, fun k hk => ?_, by omega⟩,
        (HFJ.out 0).keep _ _ _ _ H0.out (Chg.of (S := []) hb (Nat.le_refl _)) (fun _ _ h => nomatch h), Chg.of hb (Nat.le_refl _), fun i hi => .inl hi, SeR.nil, SnD.nil S, ⟨⟨by show 0 + 1 ≤ 255 * 1; decide, by show 1 ≤ 21; decide, HRT.out⟩, trivial⟩, ⟨S.l.length + 2, rfl, ?_⟩, Nat.zero_le _, List.Pairwise.nil, fun D hD => by cases hD⟩
      · exact (hrow.low (by omega)).keep e3
      · injection hk with hk
        subst hk
        exact ⟨fun hx => by have hx2 : m + 1 ∈ C := hx; have := hcl _ hx2; omega, by show m + 1 ≠ _; omega, by show m + 1 ≠ m; omega⟩
      · rw [List.drop_zero, HLQ.out]
        unfold nodesT
        rw [if_neg HR0.out]
    rw [← hw1]
    clear hw1
    obtain ⟨mapLen, hml⟩ := mapLen_ex m
    have HML := Lib.hid hml
    clear hml
    refine wpIn_loop (fun a wr => ∃ (Ds : List Nat) (k : Nat) (C2 : List Nat) (todo : List (ByteArray × Nat)) (seen : List ByteArray) (lm : SeenD) (v : Value), ∃ u7 u8 u9 u10 u11 u12 u13 u14 u21 u22 u23 u24 u25 u26 u27 u28 u29 u30 u31 u32 u33 u34 u35 u36 u37 u38 u39 u40 u41 u42 u43 u44 u45 u46 u47 u48 u49 u50 u51 u52 u53 u54 u55 u56 u57 u58 u59 u60 u61 u62 u63 u64 u65 u66 u67 u68 u69 u70 u71 u72 u73 u74 u75 : Value, Hid (NoR m kb F S c1 cs c3 (m + 1 + 1) m root fr J' L C W Ds k C2 todo seen lm v wr) ∧ a = { tmps := #[Value.func (Fn.yield l) #[] #[], .pointer (some ⟨c1, 0, none⟩), .pointer (some ⟨cs, 0, none⟩), .pointer (some ⟨c3, 0, none⟩), undef, .map (some m), .pointer (some ⟨m + 1 + 1, 0, none⟩), u7, u8, u9, u10, u11, u12, u13, u14, .string root, .bool false, .map (some m), .string root, .agg #[.string root, .int .i64 1], .slice (some ⟨m + 1, 0, none⟩) 1 1, u21, u22, u23, u24, u25, u26, u27, u28, u29, u30, u31, u32, u33, u34, u35, u36, u37, u38, u39, u40, u41, u42, u43, u44, u45, u46, u47, u48, u49, u50, u51, u52, u53, u54, u55, u56, u57, u58, u59, u60, u61, u62, u63, u64, u65, u66, u67, u68, u69, u70, u71, u72, u73, u74, u75], defers := Ds.map mkD }) (fun _ wr => S.l.length + 5 - mapLen wr) ?_ ?_
    · refine ⟨[], 0, C, [(root, 1)], [], [], .slice (some ⟨m + 1, 0, none⟩) 1 1, ?_⟩
      (repeat apply Exists.intro)
      exact ⟨HSTART, rfl⟩
    intro a wr hinv
    obtain ⟨Ds, hinv⟩ := hinv
    obtain ⟨k, hinv⟩ := hinv
    obtain ⟨C2, hinv⟩ := hinv
    obtain ⟨todo, hinv⟩ := hinv
    obtain ⟨seen, hinv⟩ := hinv
    obtain ⟨lm, hinv⟩ := hinv
    obtain ⟨v, hinv⟩ := hinv
    obtain ⟨u7, hinv⟩ := hinv
    obtain ⟨u8, hinv⟩ := hinv
    obtain ⟨u9, hinv⟩ := hinv
    obtain ⟨u10, hinv⟩ := hinv
    obtain ⟨u11, hinv⟩ := hinv
    obtain ⟨u12, hinv⟩ := hinv
    obtain ⟨u13, hinv⟩ := hinv
    obtain ⟨u14, hinv⟩ := hinv
    obtain ⟨u21, hinv⟩ := hinv
    obtain ⟨u22, hinv⟩ := hinv
    obtain ⟨u23, hinv⟩ := hinv
    obtain ⟨u24, hinv⟩ := hinv
    obtain ⟨u25, hinv⟩ := hinv
    obtain ⟨u26, hinv⟩ := hinv
    obtain ⟨u27, hinv⟩ := hinv
    obtain ⟨u28, hinv⟩ := hinv
    obtain ⟨u29, hinv⟩ := hinv
    obtain ⟨u30, hinv⟩ := hinv
    obtain ⟨u31, hinv⟩ := hinv
    obtain ⟨u32, hinv⟩ := hinv
    obtain ⟨u33, hinv⟩ := hinv
    obtain ⟨u34, hinv⟩ := hinv
    obtain ⟨u35, hinv⟩ := hinv
    obtain ⟨u36, hinv⟩ := hinv
    obtain ⟨u37, hinv⟩ := hinv
    obtain ⟨u38, hinv⟩ := hinv
    obtain ⟨u39, hinv⟩ := hinv
    obtain ⟨u40, hinv⟩ := hinv
    obtain ⟨u41, hinv⟩ := hinv
    obtain ⟨u42, hinv⟩ := hinv
    obtain ⟨u43, hinv⟩ := hinv
    obtain ⟨u44, hinv⟩ := hinv
    obtain ⟨u45, hinv⟩ := hinv
    obtain ⟨u46, hinv⟩ := hinv
    obtain ⟨u47, hinv⟩ := hinv
    obtain ⟨u48, hinv⟩ := hinv
    obtain ⟨u49, hinv⟩ := hinv
    obtain ⟨u50, hinv⟩ := hinv
    obtain ⟨u51, hinv⟩ := hinv
    obtain ⟨u52, hinv⟩ := hinv
    obtain ⟨u53, hinv⟩ := hinv
    obtain ⟨u54, hinv⟩ := hinv
    obtain ⟨u55, hinv⟩ := hinv
    obtain ⟨u56, hinv⟩ := hinv
    obtain ⟨u57, hinv⟩ := hinv
    obtain ⟨u58, hinv⟩ := hinv
    obtain ⟨u59, hinv⟩ := hinv
    obtain ⟨u60, hinv⟩ := hinv
    obtain ⟨u61, hinv⟩ := hinv
    obtain ⟨u62, hinv⟩ := hinv
    obtain ⟨u63, hinv⟩ := hinv
    obtain ⟨u64, hinv⟩ := hinv
    obtain ⟨u65, hinv⟩ := hinv
    obtain ⟨u66, hinv⟩ := hinv
    obtain ⟨u67, hinv⟩ := hinv
    obtain ⟨u68, hinv⟩ := hinv
    obtain ⟨u69, hinv⟩ := hinv
    obtain ⟨u70, hinv⟩ := hinv
    obtain ⟨u71, hinv⟩ := hinv
    obtain ⟨u72, hinv⟩ := hinv
    obtain ⟨u73, hinv⟩ := hinv
    obtain ⟨u74, hinv⟩ := hinv
    obtain ⟨u75, hinv⟩ := hinv
    obtain ⟨HNO, ha⟩ := hinv
    subst ha
    clear HSTART H0 HK B1 B2 B3 HCC HFC k1 k1a g1 g2 hmm hm
    obtain ⟨va, vc, rfl, hvc, hvm⟩ := HNO.out.no.row.form
    rcases todo with _ | ⟨p, todo⟩
    · have b6 : wr.cell? ⟨m + 1 + 1, 0, none⟩ = some (.slice va 0 vc) := HNO.out.no.b6.cell 0 _ rfl
      have hkl : k = L.length := by
        obtain ⟨f, _, h2⟩ := HNO.out.fu
        have h3 : nodesF S fr f [] seen = [] := by cases f <;> rfl
        rw [h3] at h2
        have := HNO.out.kl
        have := List.drop_eq_nil_iff.1 h2
        omega
      clear hvc hvm
      gi_wp2
      refine leaves_marks rfl Ds wr HNO.out.nd (fun D hD => (HNO.out.ds D hD).1) (fun W' hc => ⟨⟨_, rfl⟩, .inl ⟨C2, ?_, ?_, HNO.out.me⟩⟩)
      · rw [← hkl]
        exact (HFJ.out k).keep _ _ _ _ HNO.out.j hc (fun i hi hm => (HNO.out.ds i hm).2.1 hi)
      · exact HNO.out.ch.then hc (fun i hi => .inr (by have := (HNO.out.ds i hi).2.2.1; have := HMW.out; omega))
    · have hlen : (p :: todo).reverse.length = todo.length + 1 := by simp
      have hst := HNO.out.st
      have hsl := hst.len
      obtain ⟨⟨_, hp2, hp1⟩, _⟩ := hst
      have HPZ : Hid (p.1.size ≤ maxLen) := by unfold maxLen; show _ ≤ _; omega
      have HP2 : Hid (p.2 ≤ 21) := hp2
      rw [hlen] at hvc
      have b6 : wr.cell? ⟨m + 1 + 1, 0, none⟩ = some (.slice va (todo.length + 1) vc) := by rw [← hlen]; exact HNO.out.no.b6.cell 0 _ rfl
      have hf6 := HNO.out.no.b6.free 0
      have hat := HNO.out.no.row.at kPl_ok todo.length p (by rw [List.reverse_cons, List.getElem?_append_right (by simp)]; simp)
      obtain ⟨g, cap, hve, hgl, hgc⟩ := hat
      injection hve with hva x1 x2
      clear x1 x2
      subst hva
      have e0 : wr.cell? ⟨g, todo.length * 2, none⟩ = some (.string p.1) := hgc 0 _ rfl
      have e1 : wr.cell? ⟨g, todo.length * 2 + 1, none⟩ = some (.int .i64 (p.2 : Int)) := hgc 1 _ rfl
      have hcur := once_cur (S := S) (p := p) HNO.out.se
      have hcs : (todo.length : Int) ≤ (vc : Int) := by omega
      simp at hsl
      obtain ⟨tl, htl⟩ : ∃ tl, tl = todo.length := ⟨_, rfl⟩
      rw [← htl] at b6 e0 e1 hcs hsl
      have HTL := Lib.hid htl
      have h0t : (0 : Int) ≤ (tl : Int) := by omega
      have h1t : (tl : Int) < (tl : Int) + 1 := by omega
      have hlen2 : (p :: todo).reverse.length = tl + 1 := by rw [hlen, htl]
      have HLEN := Lib.hid hlen2
      clear hgc hvc hvm hp1 hp2 hlen htl hlen2
      obtain ⟨Wa, hWa⟩ : ∃ Wa, Wa = wr.alloc (.cells #[.string p.1, .int .i64 (p.2 : Int)] 89 (0, 0)) := ⟨_, rfl⟩
      obtain ⟨b8, hb8⟩ : ∃ b8, b8 = wr.heap.size := ⟨_, rfl⟩
      have hba : Below wr.heap.size wr Wa := by rw [hWa]; exact (Below.refl _ _).alloc (Nat.le_refl _) _
      have BPa : Box Wa b8 89 #[.string p.1, .int .i64 (p.2 : Int)] := by rw [hWa, hb8]; exact Box.new _ _ _
      have hnoa := HNO.out.no.keep hba
      have hrowt := HNO.out.no.row.take kPl_ok g vc rfl tl (by rw [HLEN.out]; omega)
      rw [List.reverse_cons, List.take_left' (by rw [List.length_reverse, HTL.out])] at hrowt
      have hnob := hnoa.setv (v' := .slice (some ⟨g, 0, none⟩) tl vc) (todo' := todo) (hrowt.keep hba) (fun k hk => HNO.out.no.zr k hk)
      have b6a : Wa.cell? ⟨m + 1 + 1, 0, none⟩ = some (.slice (some ⟨g, 0, none⟩) (tl + 1) vc) := by rw [← HLEN.out]; exact hnoa.b6.cell 0 _ rfl
      have f6a := hnoa.b6.free 0
      have hcb : Chg [m + 1 + 1] Wa (Wa.setCell ⟨m + 1 + 1, 0, none⟩ (.slice (some ⟨g, 0, none⟩) tl vc)) := Chg.only (Only.set _ 0 Wa _)
      have BPb : Box (Wa.setCell ⟨m + 1 + 1, 0, none⟩ (.slice (some ⟨g, 0, none⟩) tl vc)) b8 89 #[.string p.1, .int .i64 (p.2 : Int)] := BPa.of (hcb.block _ BPa.lt (by simp; have := HNO.out.no.b6.lt; omega))
      have hjb := (HFJ.out k).keep _ _ _ _ ((HFJ.out k).keep _ _ _ _ HNO.out.j (Chg.of (S := []) hba (Nat.le_refl _)) (fun _ _ h => nomatch h)) hcb (fun i hi hm => by simp at hm; subst hm; exact HNO.out.no.z6.1 hi)
      have hchb : Chg C W (Wa.setCell ⟨m + 1 + 1, 0, none⟩ (.slice (some ⟨g, 0, none⟩) tl vc)) := (HNO.out.ch.trans (Chg.of hba (Nat.le_refl _))).then hcb (fun i hi => by simp at hi; subst hi; exact .inr (by have := HMW.out; omega))
      have hdsb : ∀ D ∈ Ds, (Wa.setCell ⟨m + 1 + 1, 0, none⟩ (.slice (some ⟨g, 0, none⟩) tl vc)).heap[D]? = some (.deferred (some [])) := fun D hD => by
        obtain ⟨d1, d2, d3, d4, d5, d6⟩ := HNO.out.ds D hD
        have hDl : D < wr.heap.size := (Array.getElem?_eq_some_iff.1 d1).1
        exact (hcb.block D (Nat.lt_of_lt_of_le hDl hba.size) (by simpa using d4)).trans ((hba.block D hDl).trans d1)
      obtain ⟨Wb, hWb⟩ : ∃ Wb, Wb = Wa.setCell ⟨m + 1 + 1, 0, none⟩ (.slice (some ⟨g, 0, none⟩) tl vc) := ⟨_, rfl⟩
      have hszb : Wb.heap.size = Wa.heap.size := by rw [hWb]; exact Array.size_modify ..
      rw [← hWb] at hnob BPb hjb hchb hdsb
      have HNOB := Lib.hid hnob
      have HBPB := Lib.hid BPb
      have HJB := Lib.hid hjb
      have HCHB := Lib.hid hchb
      have HDSB := Lib.hid hdsb
      have HB8 : Hid (wr.heap.size ≤ b8 ∧ b8 < Wb.heap.size ∧ wr.heap.size ≤ Wb.heap.size) := ⟨by omega, BPb.lt, by have := hba.size; omega⟩
      have hwa := hWa.symm
      have hwb := hWb.symm
      have hb9 := hb8.symm
      have s0 : Wb.cell? ⟨cs, 0, none⟩ = some (kpV kb) := hnob.bs.cell 0 _ rfl
      have p0 : Wb.cell? ⟨b8, 0, none⟩ = some (.string p.1) := BPb.cell 0 _ rfl
      have p1 : Wb.cell? ⟨b8, 1, none⟩ = some (.int .i64 (p.2 : Int)) := BPb.cell 1 _ rfl
      clear hba BPa hnoa hrowt hnob hcb BPb hjb hchb hdsb hWa hWb hszb hb8
      gi_wp2_with fail
      refine ⟨trivial, fun _ => by have := HN.out; omega, ?_⟩
      have honce := once_any kb F S p.1 p.2 m lm Wb HNOB.out.kp HPZ.out (by have := HP2.out; omega) HNOB.out.map (fun hm => by have := (HNOB.out.kz m hm).2; omega) (by have h9 := HNO.out.se.len; have h8 := HNO.out.sn.len; obtain ⟨v9, hv9, _⟩ := HNO.out.no.kp; have h7 := hv9.ok.len; unfold maxLen; omega)
      rw [hcur] at honce
      refine (callsIn_wide.2 honce).mono ?_
      clear honce
      rintro e Wc ⟨nv, rfl, hno2, hmap2, hc2⟩
      obtain ⟨x, rfl, hx⟩ := hno2.ndz
      unfold NdV.val
      obtain ⟨q, hq⟩ : ∃ q, q = curN S p seen := ⟨_, rfl⟩
      obtain ⟨lm2, hlm2⟩ : ∃ lm2, lm2 = (onceN S p.1 p.2 lm).2 := ⟨_, rfl⟩
      rw [← hq] at hx ⊢
      rw [← hlm2] at hmap2
      have HQ := Lib.hid hq
      have HLM := Lib.hid hlm2
      obtain ⟨Wd, hWd⟩ : ∃ Wd, Wd = Wc.alloc (.cells #[.bool x.leaf, .slice x.ka x.kn x.kc, .slice x.va x.vn x.vc] 51 (0, 0)) := ⟨_, rfl⟩
      obtain ⟨b9, hb9c⟩ : ∃ b9, b9 = Wc.heap.size := ⟨_, rfl⟩
      have hbd : Below Wc.heap.size Wc Wd := by rw [hWd]; exact (Below.refl _ _).alloc (Nat.le_refl _) _
      have BN : Hid (Box Wd b9 51 #[.bool x.leaf, .slice x.ka x.kn x.kc, .slice x.va x.vn x.vc]) := by show Box _ _ _ _; rw [hWd, hb9c]; exact Box.new _ _ _
      have hcd : Chg [m] Wb Wd := hc2.trans (Chg.of hbd (Nat.le_refl _))
      have hmC : m ∉ C2 := HNO.out.no.zm.1
      have HNOD := Lib.hid ((HNOB.out.setm hc2 hmap2).keep hbd)
      have HBPD := Lib.hid (HBPB.out.of (hcd.block _ HBPB.out.lt (by simp; have := HB8.out.1; have := HNO.out.no.map.lt; omega)))
      have HJD := Lib.hid ((HFJ.out k).keep _ _ _ _ HJB.out hcd (fun i hi hm => by simp at hm; subst hm; exact hmC hi))
      have HCHD : Hid (Chg C W Wd) := HCHB.out.then hcd (fun i hi => by simp at hi; subst hi; exact .inr (by have := HMW.out; omega))
      have HDSD : Hid (∀ D ∈ Ds, Wd.heap[D]? = some (.deferred (some []))) := fun D hD => by
        obtain ⟨d1, d2, d3, d4, d5, d6⟩ := HNO.out.ds D hD
        have hDl : D < Wb.heap.size := Nat.lt_of_lt_of_le (Array.getElem?_eq_some_iff.1 d1).1 HB8.out.2.2
        exact (hcd.block D hDl (by simpa using d5)).trans (HDSB.out D hD)
      have hcl := (HFJ.out k).lt _ _ HNO.out.j
      have HXD := Lib.hid ((hx.mono (Z' := fun i => Wb.heap.size ≤ i ∧ i ∉ C2) (fun i _ hi => ⟨hi, fun hm => by have := hcl i hm; have := HB8.out.2.2; have hi2 : Wb.heap.size ≤ i := hi; omega⟩)).keep hbd)
      have HB9 : Hid (Wb.heap.size ≤ b9 ∧ b9 < Wd.heap.size) := ⟨by rw [hb9c]; exact hc2.size, BN.out.lt⟩
      have hstep : ∃ f, f + (p.1 :: seen).length = S.l.length + 2 ∧ L.drop k = nodesF S fr (f + 1) (p :: todo) seen := by
        obtain ⟨f, h1, h2⟩ := HNO.out.fu
        have := HNO.out.sn.len
        obtain ⟨f', rfl⟩ : ∃ f', f = f' + 1 := ⟨f - 1, by omega⟩
        exact ⟨f', by simp; omega, h2⟩
      obtain ⟨f, hf1, hf2⟩ := hstep
      have hLk : L[k]? = some (p.1, q) := by
        have h3 : (L.drop k)[0]? = some (p.1, q) := by
          rw [hf2]
          by_cases hc : (curN S p seen).2 = 0
          · rw [nodes_go hc, ← hq]; rfl
          · rw [nodes_stop hc, ← hq]; rfl
        rw [List.getElem?_drop] at h3
        exact h3
      have HF2 := Lib.hid (And.intro hf1 hf2)
      have HCL := Lib.hid hcl
      have hkL : k < L.length := (List.getElem?_eq_some_iff.1 hLk).1
      have HKL := Lib.hid hkL
      have hyk := HY.out k C2 Wd _ hkL HJD.out HCHD.out HNO.out.me ⟨(p.1, q), x, hLk, rfl, HXD.out.mono (fun i _ hi => hi.2)⟩
      have HYK := Lib.hid hyk
      have p0 : Wd.cell? ⟨b8, 0, none⟩ = some (.string p.1) := HBPD.out.cell 0 _ rfl
      have n0 : Wd.cell? ⟨b9, 0, none⟩ = some (.bool x.leaf) := BN.out.cell 0 _ rfl
      have n1 : Wd.cell? ⟨b9, 1, none⟩ = some (.slice x.ka x.kn x.kc) := BN.out.cell 1 _ rfl
      have n2 : Wd.cell? ⟨b9, 2, none⟩ = some (.slice x.va x.vn x.vc) := BN.out.cell 2 _ rfl
      have hwd := hWd.symm
      have hbb := hb9c.symm
      clear hno2 hmap2 hc2 hx hq hlm2 hWd hb9c hbd hcd hmC hcl hf1 hf2 hLk hkL hyk s0 p1 hwa hwb hb9 hcur e0 e1 b6 hf6 b6a f6a HJB HCHB HDSB HNOB HBPB
      have hy := HYK.out
      obtain ⟨fn, tmps, assign, body, hyy, hR⟩ := hy
      gi_wp2
      refine ⟨fun _ => by have := HN.out; omega, ?_⟩
      refine hR.mono ?_
      rintro e We (⟨rfl, C3, g1, g2, g3⟩ | ⟨rfl, C3, g1, g2, g3⟩)
      · have hn3 : ∀ i, i < Wd.heap.size → i ∉ C2 → i ∉ C3 := fun i hi hc hm => by
          rcases g3 i hm with h | h
          · exact hc h
          · omega
        have HJE := Lib.hid g1
        have HCHE : Hid (Chg C W We) := HCHD.out.then g2 (fun i hi => HNO.out.me i hi)
        have HMEE : Hid (∀ i ∈ C3, i ∈ C ∨ W.heap.size ≤ i) := fun i hi => by
          rcases g3 i hi with h | h
          · exact HNO.out.me i h
          · exact .inr (Nat.le_trans HCHD.out.size h)
        have HDSE : Hid (∀ D ∈ Ds, We.heap[D]? = some (.deferred (some [])) ∧ D ∉ C3 ∧ m ≤ D ∧ D ≠ m + 1 + 1 ∧ D ≠ m ∧ (Value.slice (some ⟨g, 0, none⟩) tl vc).ownBlock ≠ some D) := fun D hD => by
          obtain ⟨d1, d2, d3, d4, d5, d6⟩ := HNO.out.ds D hD
          have hDl := (Array.getElem?_eq_some_iff.1 (HDSD.out D hD)).1
          exact ⟨(g2.block D hDl d2).trans (HDSD.out D hD), hn3 D hDl d2, d3, d4, d5, d6⟩
        have HNOE := Lib.hid (((HNOD.out.mono (Z' := fun i => i ∉ C2 ∧ i ∉ C3) (fun i hi hc => ⟨hc, hn3 i hi hc⟩)).chg g2 (fun i hi => hi.1)).mono (Z' := (· ∉ C3)) (fun i _ hi => hi.2))
        have HXE := Lib.hid (((HXD.out.mono (Z' := fun i => Wb.heap.size ≤ i ∧ i ∉ C2 ∧ i ∉ C3) (fun i hi hc => ⟨hc.1, hc.2, hn3 i hi hc.2⟩)).chg g2 (fun i hi => hi.2.1)).mono (Z' := fun i => Wb.heap.size ≤ i ∧ i ∉ C3) (fun i _ hi => ⟨hi.1, hi.2.2⟩))
        have h9C : b9 ∉ C2 := fun hm => by have := HCL.out _ hm; have := HB9.out.1; have := HB8.out.2.2; omega
        have h8C : b8 ∉ C2 := fun hm => by have := HCL.out _ hm; have := HB8.out.1; omega
        have BNE := Lib.hid (BN.out.of (g2.block _ BN.out.lt h9C))
        have BPE := Lib.hid (HBPD.out.of (g2.block _ HBPD.out.lt h8C))
        have H89 : Hid (b9 ∉ C3 ∧ b8 ∉ C3 ∧ b8 < Wd.heap.size ∧ Wd.heap.size ≤ We.heap.size) := ⟨hn3 _ BN.out.lt h9C, hn3 _ HBPD.out.lt h8C, HBPD.out.lt, g2.size⟩
        clear g1 g2 g3 hn3 h9C h8C hR hyy p0 n0 n1 n2 hwd hbb HDSD HCHD HJD HNOD HXD BN HBPD HYK
        by_cases hqc : q.2 = 0
        · have hcc : (curN S p seen).2 = 0 := by rw [← HQ.out]; exact hqc
          obtain ⟨hns, hload⟩ := cur_load hcc
          have hfs : ¬ (findL lm p.1).isSome = true := by rw [HNO.out.se.has]; exact hns
          have hlm2 : lm2 = putL lm p.1 () := by rw [HLM.out, once_no hfs]
          have HSE2 : Hid (SeR lm2 (p.1 :: seen)) := by show SeR _ _; rw [hlm2]; exact HNO.out.se.put hfs
          have HSN2 : Hid (SnD S (p.1 :: seen)) := HNO.out.sn.cons hns (by rw [← hload]; exact hcc)
          have hnf : L.drop (k + 1) = nodesF S fr f (kidsN q.1 p.2 fr ++ todo) (p.1 :: seen) := by
            have h3 := HF2.out.2
            rw [nodes_go hcc, ← HQ.out] at h3
            have h4 := congrArg (List.drop 1) h3
            rw [List.drop_drop] at h4
            exact h4
          have HNF := Lib.hid hnf
          have HMU : Hid (mapLen wr = seen.length ∧ ∀ W9, MapAt SeS W9 m lm2 → mapLen W9 = seen.length + 1) := ⟨by rw [HML.out _ _ HNO.out.no.map]; exact HNO.out.se.len, fun W9 h9 => by rw [HML.out _ _ h9]; exact HSE2.out.len⟩
          have HST2 : Hid (StkOk (kidsN q.1 p.2 fr ++ todo)) := by show StkOk _; rw [HQ.out]; exact kids_stk HNO.out.st hcc
          have HGQ : Hid (GdN 239 q.1 ∧ p.2 ≤ 20 ∧ (q.1.leaf = false → 0 < q.1.keys.length)) := ⟨by rw [HQ.out]; exact cur_gd S p seen, by rw [hload] at hcc; exact load_h hcc, fun h => by rw [HQ.out, hload] at h ⊢; rw [hload] at hcc; exact (load_in hcc h).1⟩
          have HLE : Hid (seen.length ≤ S.l.length) := HNO.out.sn.len
          rw [hqc]
          clear hcc hns hload hfs hlm2 hnf hqc
          have n0 : We.cell? ⟨b9, 0, none⟩ = some (.bool x.leaf) := BNE.out.cell 0 _ rfl
          cases hlf : x.leaf
          · have n1 : We.cell? ⟨b9, 1, none⟩ = some (.slice x.ka x.kn x.kc) := BNE.out.cell 1 _ rfl
            have n2 : We.cell? ⟨b9, 2, none⟩ = some (.slice x.va x.vn x.vc) := BNE.out.cell 2 _ rfl
            have c3c : We.cell? ⟨c3, 0, none⟩ = some (.string fr) := HNOE.out.b3.cell 0 _ rfl
            have hql : q.1.leaf = false := HXE.out.leaf.symm.trans hlf
            rw [hlf] at n0
            have HAG : Hid (Value.agg #[.bool false, .slice x.ka x.kn x.kc, .slice x.va x.vn x.vc] = nodeV x.ka x.kc x.va x.vc q.1) := by
              have := HXE.out.agg
              rw [hlf] at this
              exact this
            have HSM : Hid (SmN 255 q.1) := HGQ.out.1.sm (by decide)
            have hkk : kidsN q.1 p.2 fr = (q.1.vals.drop (findD q.1 fr).1).map (fun r => (r, p.2 + 1)) := if_neg (by rw [hql]; decide)
            have hfi := find_lt q.1 fr (HGQ.out.2.2 hql) HGQ.out.1.len.2
            obtain ⟨fi, hfie⟩ : ∃ fi, fi = (findD q.1 fr).1 := ⟨_, rfl⟩
            rw [← hfie] at hkk hfi
            have HFI := Lib.hid hfi
            rw [hkk] at HNF HST2
            have HFE := Lib.hid hfie
            clear hlf hql hkk hfie
            gi_wp2_with fail
            refine ⟨trivial, fun _ => by have := HN.out; omega, ?_⟩
            rw [HAG.out]
            refine (callsIn_wide.2 (find_any x.ka x.kc x.va x.vc q.1 fr We (HXE.out.nodeIn (by have := HSM.out.kl; omega) (by have := HSM.out.vl; omega)) HSM.out.max)).mono ?_
            rintro e Wf ⟨rfl, hbf⟩
            rw [← HFE.out]
            generalize (findD q.1 fr).2 = bf
            have HNOF := Lib.hid (HNOE.out.keep hbf)
            have HJF := Lib.hid ((HFJ.out (k + 1)).keep _ _ _ _ HJE.out (Chg.of (S := []) hbf (Nat.le_refl _)) (fun _ _ h => nomatch h))
            have HCHF : Hid (Chg C W Wf) := HCHE.out.trans (Chg.of hbf (Nat.le_refl _))
            have HDSF : Hid (∀ D ∈ Ds, Wf.heap[D]? = some (.deferred (some []))) := fun D hD => by
              have h9 := (HDSE.out D hD).1
              exact (hbf.block D (Array.getElem?_eq_some_iff.1 h9).1).trans h9
            have HXF := Lib.hid (HXE.out.keep hbf)
            have BNF := Lib.hid (BNE.out.keep hbf BNE.out.lt)
            have BPF := Lib.hid (BPE.out.keep hbf BPE.out.lt)
            have HZF : Hid (b8 < Wf.heap.size ∧ b9 < Wf.heap.size ∧ We.heap.size ≤ Wf.heap.size) := ⟨BPF.out.lt, BNF.out.lt, hbf.size⟩
            clear hbf n0 n1 n2 c3c
            obtain ⟨va2, vc2, hve, hvs⟩ := ks_form2 HXF.out.vr
            unfold NdV.v at hve
            injection hve with hva hvn x1
            clear x1
            rw [← hva] at hvs
            obtain ⟨gv, ov, hvx, hgvl, hxx⟩ := hvs.get 0 (by omega)
            clear hxx
            have hsl : Sl Wf Value.string (some ⟨gv, ov + fi, none⟩) (q.1.vals.drop fi) := by
              intro _
              refine ⟨gv, ov + fi, rfl, hgvl, fun i y hy => ?_⟩
              rw [List.getElem?_drop] at hy
              obtain ⟨b5, o5, e5, _, hc5⟩ := hvs (by intro e; rw [e] at hfi; simp at hfi)
              rw [hvx] at e5
              injection e5 with e5
              injection e5 with e5 e6 _
              subst e5 e6
              have := hc5 (fi + i) y hy
              rw [← Nat.add_assoc] at this
              exact this
            have hgz := HXF.out.vz gv (by unfold NdV.v; rw [hvx]; rfl)
            have HSL := Lib.hid hsl
            have HGV : Hid (gv < Wf.heap.size ∧ Wb.heap.size ≤ gv ∧ gv ∉ C3) := ⟨hgvl, hgz.1, hgz.2⟩
            have n2 : Wf.cell? ⟨b9, 2, none⟩ = some (.slice (some ⟨gv, ov, none⟩) x.vn x.vc) := by rw [← hvx]; exact BNF.out.cell 2 _ rfl
            have hvl : x.vn = q.1.vals.length := hvn
            have hvcap := HXF.out.caps.2
            have h1f : (fi : Int) ≤ (x.vn : Int) := by omega
            have h0f : (0 : Int) ≤ (fi : Int) := by omega
            have h2f : (x.vn : Int) ≤ (x.vc : Int) := by omega
            have h3f : (fi : Int) < (x.vc : Int) := by omega
            have h4f : ¬ fi = x.vc := by omega
            have h5f : ¬ x.vc = fi := by omega
            have h6f : ¬ x.vc - fi = 0 := by omega
            have h7f : ¬ x.vc ≤ fi := by omega
            clear hva hvs hvx hgvl hsl hgz hvn hvcap hfi
            gi_wp2_with fail
            refine ⟨trivial, fun _ => by have := HN.out; omega, ?_⟩
            refine (callsIn_wide.2 (back_any _ _ _ _)).mono ?_
            rintro e Wg ⟨rfl, hbg, hbk⟩
            have HNOG := Lib.hid (HNOF.out.keep hbg)
            have HJG := Lib.hid ((HFJ.out (k + 1)).keep _ _ _ _ HJF.out (Chg.of (S := []) hbg (Nat.le_refl _)) (fun _ _ h => nomatch h))
            have HCHG : Hid (Chg C W Wg) := HCHF.out.trans (Chg.of hbg (Nat.le_refl _))
            have HDSG : Hid (∀ D ∈ Ds, Wg.heap[D]? = some (.deferred (some []))) := fun D hD => by
              have h9 := HDSF.out D hD
              exact (hbg.block D (Array.getElem?_eq_some_iff.1 h9).1).trans h9
            have BPG := Lib.hid (BPF.out.keep hbg BPF.out.lt)
            have HSLG := Lib.hid (HSL.out.keep hbg)
            have HBK := Lib.hid hbk
            have HZG : Hid (Wf.heap.size < Wg.heap.size ∧ b8 < Wf.heap.size ∧ gv < Wg.heap.size) := ⟨hbk.lt, HZF.out.1, Nat.lt_of_lt_of_le HGV.out.1 hbg.size⟩
            obtain ⟨L2, hL2⟩ : ∃ L2, L2 = q.1.vals.drop fi := ⟨_, rfl⟩
            have hl2 : q.1.vals.length - fi = L2.length := by rw [hL2, List.length_drop]
            have hl2s : L2.length ≤ 255 := by rw [hL2, List.length_drop]; have := HSM.out.vl; omega
            rw [hl2] at HBK
            rw [← hL2] at HSLG HNF HST2
            have HL2 := Lib.hid hl2s
            obtain ⟨bk, hbke⟩ : ∃ bk, bk = Wf.heap.size := ⟨_, rfl⟩
            have HBKE := Lib.hid hbke
            rw [← hbke] at HBK HZG ⊢
            clear hbg hbk HNOF HJF HCHF HDSF BPF HSL n2 hvl h1f h0f h2f h3f h4f h5f h6f h7f hL2 hl2s hbke
            obtain ⟨K, hK⟩ : ∃ K, K = (L2.map (fun r => (r, p.2 + 1))).reverse := ⟨_, rfl⟩
            have HKQ := Lib.hid hK
            have hKl : K.length = L2.length := by rw [hK]; simp
            have HKLN := Lib.hid hKl
            have HCG : Hid (m + 1 + 1 < wr.heap.size ∧ g < wr.heap.size ∧ wr.heap.size ≤ Wf.heap.size ∧ m ≤ g ∧ g ≠ m + 1 + 1 ∧ g ≠ m) := by
              have h1 := HNO.out.no.zr g rfl
              have h2 := HNO.out.no.row.own_block g rfl
              have h4 := HB8.out.2.2
              have h5 := HB9.out
              have h6 := H89.out.2.2.2
              have h7 := HZF.out.2.2
              exact ⟨HNO.out.no.b6.lt, hgl, by omega, h2, h1.2.1, h1.2.2⟩
            clear hK hKl
            gi_wp2_with fail
            refine range_fx (gf := 60) (lb := #[.pointer (some ⟨bk, 0, none⟩)]) (by have := HN.out; omega) rfl (enters_of Try.func60 (by kernel_rfl) rfl) L2.length (fun k ya _ _ => ya = backA L2 k) (fun k ya C W h => by rw [h]; rfl)
              (PlJ m (m + 1 + 1) todo.reverse K) (fun _ _ => False) (fun k => fixed_pl _ _ _ _ k) fixed_false [m + 1 + 1, g] ⟨.slice (some ⟨g, 0, none⟩) tl vc, rfl, HNOG.out.b6, by rw [List.take_zero, List.append_nil]; exact HNOG.out.row, fun e => HCG.out.2.2.2.2.1 (by injection e), fun e => HCG.out.2.2.2.2.2 (by injection e)⟩ ?iter ?body ?fin (fun _ _ h => h.elim)
            case iter =>
              intro l2 J2 Jx2 hf2 hfx2 C4 W4 hj4 hb4 hm4 hyy
              refine back_iter (n - 1) l2 bk (by have := HN.out; omega) (some ⟨gv, ov + fi, none⟩) (x.vc - fi) L2 (by have := HL2.out; omega) J2 Jx2 C4 W4 hj4 (HBK.out.keep hb4 HBK.out.lt) (fun hm => ?_) (HSLG.out.keep hb4) (fun b off e hm => ?_) hyy
              · rcases hm4 _ hm with h | h
                · have := HCG.out
                  have := HBKE.out
                  simp at h
                  omega
                · have := HBK.out.lt; omega
              · injection e with e
                injection e with e1 _ _
                subst e1
                rcases hm4 _ hm with h | h
                · have := HCG.out
                  have := HGV.out.2.1
                  have := HB8.out.2.2
                  simp at h
                  omega
                · have := HZG.out.2.2; omega
            case body =>
              rintro k2 C4 W4 ya hk2 ⟨v4, hC4, hb6, hrw, hv6, hvm⟩ rfl hsz4 hr4 hd4 hch4 hm4
              have HV4 := Lib.hid hb6
              have HRW := Lib.hid hrw
              have HCE := Lib.hid hC4
              have HVN := Lib.hid (And.intro hv6 hvm)
              have HR4 := Lib.hid hr4
              have HSZ4 := Lib.hid hsz4
              have h8n : b8 ∉ [m + 1 + 1, g] := fun hm => by
                have := HCG.out
                have := HB8.out.1
                simp at hm
                omega
              have HP4 := Lib.hid (BPG.out.of (hch4.block _ BPG.out.lt h8n))
              have HK2 := Lib.hid hk2
              clear hb6 hrw hC4 hv6 hvm hr4 hd4 hch4 hm4 h8n
              obtain ⟨ref, href⟩ : ∃ ref, ref = L2.getD (L2.length - 1 - k2) noT := ⟨_, rfl⟩
              have HREF := Lib.hid href
              unfold backA
              rw [← href]
              clear href
              gi_wp2_with fail
              refine ⟨Below.refl _ _, fun o => ?_⟩
              have hcp := chg_put W4 (Wg.heap.size + 1) o
              have hc6 : m + 1 + 1 ∉ [Wg.heap.size + 1] := fun hm => by rw [List.mem_singleton] at hm; exact HR4.out (by rw [HCE.out, ← hm]; simp)
              have hv5 := HV4.out.of (hcp.block _ HV4.out.lt hc6)
              have hr5 := HRW.out.chg hcp (fun k hk hm => by rw [List.mem_singleton] at hm; exact HR4.out (by rw [HCE.out, ← hm]; simp [hk]))
              have hp5 := HP4.out.of (hcp.block _ HP4.out.lt (fun hm => by rw [List.mem_singleton] at hm; have := HZG.out.2.1; have := HZG.out.1; omega))
              have hs5 : (W4.putObj (Wg.heap.size + 1) o).heap.size = W4.heap.size := by
                show (W4.heap.setIfInBounds _ _).size = _
                rw [Array.size_setIfInBounds]
              obtain ⟨W5, hW5⟩ : ∃ W5, W5 = W4.putObj (Wg.heap.size + 1) o := ⟨_, rfl⟩
              rw [← hW5] at hv5 hr5 hp5 hs5 ⊢
              obtain ⟨Wx, hWx⟩ : ∃ Wx, Wx = W5.alloc (.cells #[.string ref, .int .i64 ((p.2 : Int) + 1)] 89 (0, 0)) := ⟨_, rfl⟩
              have hbx : Below W5.heap.size W5 Wx := by rw [hWx]; exact (Below.refl _ _).alloc (Nat.le_refl _) _
              have BX : Hid (Box Wx W5.heap.size 89 #[.string ref, .int .i64 ((p.2 : Int) + 1)]) := by show Box _ _ _ _; rw [hWx]; exact Box.new _ _ _
              have HVX := Lib.hid (hv5.keep hbx hv5.lt)
              have HRX := Lib.hid (hr5.keep hbx)
              have HWX := Lib.hid hWx.symm
              have HSX : Hid (Wx.heap.size = W5.heap.size + 1 ∧ m ≤ W5.heap.size ∧ Wg.heap.size + 2 ≤ W5.heap.size) := ⟨by rw [hWx, size_alloc], by have := hv5.lt; omega, by rw [hs5]; exact HSZ4.out⟩
              have HCX : Hid (Chg ((m + 1 + 1) :: v4.ownBlock.toList) W5 Wx) := Chg.of hbx (Nat.le_refl _)
              have q6 : W5.cell? ⟨m + 1 + 1, 0, none⟩ = some v4 := hv5.cell 0 _ rfl
              have q8 : W5.cell? ⟨b8, 1, none⟩ = some (.int .i64 (p.2 : Int)) := hp5.cell 1 _ rfl
              have hp2 := HP2.out
              obtain ⟨l4, hl4⟩ : ∃ l4, l4 = todo.reverse ++ K.take k2 := ⟨_, rfl⟩
              rw [← hl4] at HRX
              have HLB : Hid (l4.length + 1 ≤ 200000) := by
                show _ ≤ _
                rw [hl4, List.length_append, List.length_reverse, List.length_take]
                have := HL2.out
                have := HKLN.out
                have := HTL.out
                omega
              have HL4 : Hid (l4 ++ [(ref, p.2 + 1)] = todo.reverse ++ K.take (k2 + 1)) := by
                have hkk : k2 < K.length := by rw [HKLN.out]; exact HK2.out
                show _ = _
                have hi9 : L2.length - 1 - k2 < L2.length := by have := HK2.out; omega
                have h9 : K[k2]? = some (ref, p.2 + 1) := by
                  rw [HKQ.out, List.getElem?_reverse (by rw [List.length_map]; exact HK2.out), List.getElem?_map, List.length_map, List.getElem?_eq_getElem hi9, HREF.out]
                  simp [List.getD, hi9]
                have h8 : K[k2] = (ref, p.2 + 1) := by
                  rw [List.getElem?_eq_getElem hkk] at h9
                  exact Option.some.inj h9
                rw [hl4, List.take_succ_eq_append_getElem hkk, List.append_assoc, h8]
              clear hcp hc6 hv5 hr5 hp5 hs5 hW5 hWx hbx hl4
              gi_wp2_with (gi_at_builtin; go_must (rw [HWX.out]; refine wpListIn_rw_push kPl_ok Try.underlying95 Wx rfl _ _ rfl m v4 l4 rfl HRX.out W5.heap.size 1 (ref, p.2 + 1) rfl (fun j u hj => BX.out.cell j u (by rw [← hj]; show #[Value.string ref, .int .i64 ((p.2 : Int) + 1)][j]? = [Value.string ref, .int .i64 ((p.2 + 1 : Nat) : Int)][j]?; rw [show ((p.2 + 1 : Nat) : Int) = (p.2 : Int) + 1 from by omega]; simp)) HLB.out (by have := HSX.out; omega) ?_; intro b6' cap w6 hR6 hg6 ho6; have hv6 : Box w6 (m + 1 + 1) 95 #[v4] := HVX.out.of (hg6.block _ HVX.out.lt (fun e => HVN.out.1 e.symm)); have e0 := hv6.cell 0 _ rfl; have e1 := hv6.free 0; have HR6 := Lib.hid hR6; have HG6 := Lib.hid hg6; have HV6 := Lib.hid hv6; have HO6 := Lib.hid ho6; clear hR6 hg6 hv6 ho6))
              have hne : (Value.slice b6' (l4.length + 1) cap).ownBlock ≠ some (m + 1 + 1) ∧ (Value.slice b6' (l4.length + 1) cap).ownBlock ≠ some m := by
                rcases HO6.out with h | h
                · rw [h]; exact HVN.out
                · rw [h]
                  have := HVX.out.lt
                  exact ⟨fun e => by injection e with e; omega, fun e => by injection e with e; omega⟩
              have hset : Chg [m + 1 + 1] w6 (w6.setCell ⟨m + 1 + 1, 0, none⟩ (.slice b6' (l4.length + 1) cap)) := Chg.only (Only.set _ 0 w6 _)
              rw [HCE.out]
              refine ⟨(m + 1 + 1) :: (Value.slice b6' (l4.length + 1) cap).ownBlock.toList, ⟨_, rfl, HV6.out.set 0 _, ?_, hne.1, hne.2⟩, ?_, fun i hi => ?_⟩
              · rw [← HL4.out]
                exact HR6.out.chg hset (fun i hi hm => by rw [List.mem_singleton] at hm; subst hm; exact hne.1 hi)
              · exact (HCX.out.trans (Chg.grown HG6.out (fun i hi => by simp [hi]))).trans (hset.mono (fun i hi => by rw [List.mem_singleton.1 hi]; simp))
              · rcases List.mem_cons.1 hi with rfl | hi
                · exact .inl (by simp)
                · rcases HO6.out with h | h
                  · exact .inl (by rw [h] at hi; simp [hi])
                  · rw [h] at hi
                    simp at hi
                    have := HSX.out.1
                    exact .inr (by omega)
            case fin =>
              rintro C4 W4 ⟨v4, hC4, hb6, hrw, hv6, hvm⟩ hch hmem hd hsz hdd
              have hC3l := (HFJ.out (k + 1)).lt _ _ HJG.out
              have hown : ∀ i, v4.ownBlock = some i → (i = g ∨ Wg.heap.size ≤ i) ∧ i ≠ m + 1 + 1 ∧ i ≠ m ∧ i ≠ Wg.heap.size := fun i hi => by
                have hi6 : i ≠ m + 1 + 1 := fun e => hv6 (e ▸ hi)
                refine ⟨?_, hi6, fun e => hvm (e ▸ hi), fun e => hd (by rw [hC4, ← e]; simp [hi])⟩
                rcases hmem i (by rw [hC4]; simp [hi]) with h | h
                · simp at h
                  rcases h with h | h
                  · exact absurd h hi6
                  · exact .inl h
                · exact .inr h
              have hzg := HNOG.out.zr g rfl
              have hz6 := HNOG.out.z6
              have HREL : Hid (NoR m kb F S c1 cs c3 (m + 1 + 1) m root fr J' L C W (Wg.heap.size :: Ds) (k + 1) C3 (L2.map (fun r => (r, p.2 + 1)) ++ todo) (p.1 :: seen) lm2 v4 W4) := by
                refine ⟨HNOG.out.reset hch hb6 ?_ (fun i hi => ?_), (HFJ.out (k + 1)).keep _ _ _ _ HJG.out hch (fun i hi hm => ?_), HCHG.out.then hch (fun i hi => ?_), HMEE.out, HSE2.out, HSN2.out, HST2.out, ⟨f, HF2.out.1, HNF.out⟩, HKL.out, List.pairwise_cons.2 ⟨fun D hD => ?_, HNO.out.nd⟩, fun D hD => ?_⟩
                · rw [List.take_of_length_le (by rw [HKLN.out]; exact Nat.le_refl _), HKQ.out] at hrw
                  rw [List.reverse_append]
                  exact hrw
                · obtain ⟨h1, h2, h3, _⟩ := hown i hi
                  refine ⟨?_, h2, h3⟩
                  rcases h1 with h1 | h1
                  · rw [h1]; exact hzg.1
                  · exact fun hm => by have := hC3l i hm; omega
                · simp at hm
                  rcases hm with rfl | rfl
                  · exact hz6.1 hi
                  · exact hzg.1 hi
                · simp at hi
                  have := HMW.out
                  have := HCG.out.2.2.2.1
                  exact .inr (by omega)
                · have := (Array.getElem?_eq_some_iff.1 (HDSG.out D hD)).1
                  omega
                · rcases List.mem_cons.1 hD with rfl | hD
                  · have := HCG.out
                    have := HZG.out
                    have := HBKE.out
                    exact ⟨hdd, fun hm => by have := hC3l _ hm; omega, by omega, by omega, by omega, fun e => (hown _ e).2.2.2 rfl⟩
                  · obtain ⟨d1, d2, d3, d4, d5, d6⟩ := HDSE.out D hD
                    have hDg : D ≠ g := fun e => d6 (by rw [e]; rfl)
                    have hDl := (Array.getElem?_eq_some_iff.1 (HDSG.out D hD)).1
                    refine ⟨(hch.block D hDl (by simp; exact ⟨d4, hDg⟩)).trans (HDSG.out D hD), d2, d3, d4, d5, fun e => ?_⟩
                    rcases (hown D e).1 with h | h
                    · exact hDg h
                    · omega
              refine And.intro ⟨Wg.heap.size :: Ds, k + 1, C3, L2.map (fun r => (r, p.2 + 1)) ++ todo, p.1 :: seen, lm2, v4, ?_⟩ ?_
              · (repeat apply Exists.intro)
                exact ⟨HREL, rfl⟩
              · rw [HMU.out.1, HMU.out.2 _ HREL.out.no.map]
                have := HLE.out
                omega
          · have hk0 : kidsN q.1 p.2 fr = [] := if_pos (HXE.out.leaf.symm.trans hlf)
            rw [hk0, List.nil_append] at HNF HST2
            have HREL : Hid (NoR m kb F S c1 cs c3 (m + 1 + 1) m root fr J' L C W Ds (k + 1) C3 todo (p.1 :: seen) lm2 (.slice (some ⟨g, 0, none⟩) tl vc) We) :=
              ⟨HNOE.out, HJE.out, HCHE.out, HMEE.out, HSE2.out, HSN2.out, HST2.out, ⟨f, HF2.out.1, HNF.out⟩, HKL.out, HNO.out.nd, HDSE.out⟩
            rw [hlf] at n0
            clear hlf hk0
            gi_wp2
            refine ⟨⟨Ds, k + 1, C3, todo, p.1 :: seen, lm2, .slice (some ⟨g, 0, none⟩) tl vc, ?_⟩, ?_⟩
            · (repeat apply Exists.intro)
              exact ⟨HREL, rfl⟩
            · rw [HMU.out.1, HMU.out.2 _ HREL.out.no.map]
              have := HLE.out
              omega
        · have hke : L.length = k + 1 := by
            have h3 := HF2.out.2
            rw [nodes_stop (by rw [← HQ.out]; exact hqc)] at h3
            have h4 := congrArg List.length h3
            rw [List.length_drop] at h4
            simp at h4
            have := HKL.out
            omega
          have HKE := Lib.hid hke
          have e1 : (q.2 != 0) = true := by simpa using hqc
          clear hqc hke
          generalize q.2 = qc at *
          gi_wp2
          refine leaves_marks rfl Ds We HNO.out.nd (fun D hD => (HDSE.out D hD).1) (fun W' hc => ⟨⟨_, rfl⟩, .inl ⟨C3, ?_, ?_, HMEE.out⟩⟩)
          · rw [HKE.out]
            exact (HFJ.out (k + 1)).keep _ _ _ _ HJE.out hc (fun i hi hm => (HDSE.out i hm).2.1 hi)
          · exact HCHE.out.then hc (fun i hi => .inr (by have := (HDSE.out i hi).2.2.1; have := HMW.out; omega))
      · have HJE := Lib.hid g1
        have HCHE : Hid (Chg C W We) := HCHD.out.then g2 (fun i hi => HNO.out.me i hi)
        have HMEE : Hid (∀ i ∈ C3, i ∈ C ∨ W.heap.size ≤ i) := fun i hi => by
          rcases g3 i hi with h | h
          · exact HNO.out.me i h
          · exact .inr (Nat.le_trans HCHD.out.size h)
        have HDSE : Hid (∀ D ∈ Ds, We.heap[D]? = some (.deferred (some [])) ∧ D ∉ C3 ∧ m ≤ D) := fun D hD => by
          obtain ⟨d1, d2, d3, d4, d5, d6⟩ := HNO.out.ds D hD
          have hDl := (Array.getElem?_eq_some_iff.1 (HDSD.out D hD)).1
          refine ⟨(g2.block D hDl d2).trans (HDSD.out D hD), fun hm => ?_, d3⟩
          rcases g3 D hm with h | h
          · exact d2 h
          · omega
        clear g1 g2 g3 hR hyy p0 n0 n1 n2 hwd hbb
        gi_wp2
        refine leaves_marks rfl Ds We HNO.out.nd (fun D hD => (HDSE.out D hD).1) (fun W' hc => ⟨⟨_, rfl⟩, .inr ⟨C3, ?_, ?_, HMEE.out⟩⟩)
        · exact HFX.out.keep _ _ _ _ HJE.out hc (fun i hi hm => (HDSE.out i hm).2.1 hi)
        · exact HCHE.out.then hc (fun i hi => .inr (by have := (HDSE.out i hi).2.2; have := HMW.out; omega))
end Go.Proofs.Ytbeldjijnjgbfaa
