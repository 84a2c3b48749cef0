/-
  Texts put together: MoW, MoX, MoY, MoCp.
-/
import Derived.Test.YteimpebfenpifaaGreatDoorMoV
namespace Go.Proofs.YteimpebfenpifaaGreatDoor
open Go Go.RowKit Go.ChangeShapes Go.WideShapes Go.ChangeAt

/-- An entry of a map that is made at once. -/
theorem map_insert {P : Program} {K V : Type} [DecidableEq K] {S : MapSp P K V} {w : World} {ops : Array Oper} {rest : List Oper} {o : Oper} {a : Act} {Q : Exit → Act → World → Prop} (hg : o.guard = none) (x y u : Operand) (t : TypeId) (hop : o.op = Op.insert t x y u) (ht : t = S.t)
    {m : Nat} {l : List (K × V)} (hm : a.eval x = .map (some m)) (h : MapAt S w m l) (hn : l.length < maxLen) {k : K} {v : V} (hx : a.eval y = S.kv k) (hu : a.eval u = S.vv v) (hk : S.okK k)
    (hK : ∀ w', MapAt S w' m (putL l k v) → Chg [m] w w' → wpList P ops Q rest (a.put o.dst undef) w') :
    wpList P ops Q (o :: rest) a w := by
  subst ht
  obtain ⟨D, hown, hM⟩ := h
  refine wpList_plain hg fun K' hK' => ?_
  obtain ⟨w', hrun, r1, r2⟩ := hown.update S.keyed S.und hn (S.keyOf k hk) (S.rdMk v)
  unfold Oper.wp
  simp [execOp, hop, hm, hx, hu, hrun, Result.andThen]
  exact hK' _ _ (hK w' (MapAt.put hM hown hk r1) (Chg.only r2))

def newG : GD := ⟨[], [⟨true, noB⟩]⟩
def newX (b m p me : Nat) : TrD := ⟨b, m, [(0, ⟨p, some me, ⟨true, [], noB, 0⟩⟩)], 0⟩
theorem rel_new (b m p me : Nat) : Rel (newX b m p me).M newG 0 := by
  have hat : ∀ l, atE newG l = if l = [] then some 0 else none := fun l => by
    unfold atE
    split
    · rfl
    · rfl
  have hf : ∀ j : Int, findL (newX b m p me).M.l j = if j = 0 then some ⟨true, [], noB, 0⟩ else none := by
    intro j
    show findL [((0 : Int), (⟨true, [], noB, 0⟩ : ThD))] j = _
    rw [findL_cons]
    by_cases e : j = 0
    · subst e; rfl
    · rw [if_neg (Ne.symm e), if_neg e]; rfl
  refine ⟨⟨List.Pairwise.nil, by simp [newG], by simp [newG], ?_, rfl, ?_, by simp [newG], ?_⟩, by simp [newX, TrD.M, NoDupL], rfl, ?_, ?_, ?_, ?_, ?_, ?_, by simp [newG], by simp [newG]⟩
  · intro l c h
    rw [hat, if_neg (snoc_ne l c)] at h
    cases h
  · intro l l' n h1 h2 _
    rw [hat] at h1 h2
    by_cases e : l = []
    · by_cases e2 : l' = []
      · rw [e, e2]
      · rw [if_neg e2] at h2; cases h2
    · rw [if_neg e] at h1; cases h1
  · intro n
    unfold textG newG
    cases n with
    | zero => exact Nat.zero_le _
    | succ n => exact Nat.zero_le _
  · intro j t h
    rw [hf] at h
    by_cases e : j = 0
    · subst e; exact ⟨Int.le_refl _, Int.le_refl _⟩
    · rw [if_neg e] at h; cases h
  · intro n
    rw [hf]
    constructor
    · intro h
      by_cases e : (n : Int) = 0
      · exact ⟨[], by rw [hat, if_pos rfl]; congr 1; omega⟩
      · rw [if_neg e] at h; cases h
    · rintro ⟨l, hl⟩
      rw [hat] at hl
      by_cases e : l = []
      · rw [if_pos e] at hl
        have := Option.some.inj hl
        rw [if_pos (by omega)]; rfl
      · rw [if_neg e] at hl; cases hl
  · intro n t h
    rw [hf] at h
    by_cases e : (n : Int) = 0
    · rw [if_pos e] at h
      cases h
      have : n = 0 := by omega
      subst this
      rfl
    · rw [if_neg e] at h; cases h
  · intro n t h
    rw [hf] at h
    by_cases e : (n : Int) = 0
    · rw [if_pos e] at h
      cases h
      exact ⟨List.Pairwise.nil, Nat.le_refl _⟩
    · rw [if_neg e] at h; cases h
  · intro l n t _ h c
    rw [hf] at h
    rw [hat, if_neg (snoc_ne l c)]
    by_cases e : (n : Int) = 0
    · rw [if_pos e] at h
      cases h
      rfl
    · rw [if_neg e] at h; cases h
  · intro n t h hd
    rw [hf] at h
    by_cases e : (n : Int) = 0
    · rw [if_pos e] at h
      cases h
      cases hd
    · rw [if_neg e] at h; cases h

set_option maxRecDepth 100000 in
set_option maxHeartbeats 2000000 in
theorem new_any (w : World) : Calls Tryz.prog 12 #[] w fun e w' => ∃ x : TrD, e = .returned (.pointer (some ⟨x.b, 0, none⟩)) ∧ TrAt w' x ∧ Rel x.M newG 0 ∧ Below w.heap.size w w' ∧ ∀ j ∈ x.blocks, w.heap.size ≤ j := by
  have hmm := @run_makeMap Tryz.prog
  obtain ⟨m, hm⟩ : ∃ m, m = w.heap.size := ⟨_, rfl⟩
  have HM := Lib.hid hm
  have HW1 := Lib.hid ((Below.refl w.heap.size w).alloc (Nat.le_refl _) (.map #[] 0))
  have hmap := MapAt.made ThS w
  have HND := Lib.hid (newDir_any (w.alloc (.map #[] 0)))
  have HS1 : Hid ((w.alloc (.map #[] 0)).heap.size = m + 1) := by show _ = _; rw [size_alloc, hm]
  have HMM := Lib.hid hmap
  rw [← hm] at HMM
  clear hmap
  go_enter Tryz.func12, Tryz.ntmps12
  go_wp2_with fail
  rw [← hm]
  clear hm hmm
  generalize World.alloc w _ = w1 at *
  refine HND.out.mono ?_
  rintro e w2 ⟨rfl, hb, hbx, hme⟩
  rw [HS1.out] at hbx hme ⊢
  have HMM2 := HMM.out.keep hb
  have HBX := Lib.hid hbx
  have HME := Lib.hid hme
  have HW2 := Lib.hid (HW1.out.trans (hb.mono HW1.out.size))
  have HML : Hid (m < w2.heap.size) := HMM2.lt
  clear hb hbx hme HND HMM
  have hl0 : ([] : List (Int × Option Nat)).length < maxLen := by unfold maxLen; simp
  have hk0 : ThS.okK 0 := by show (Lit.int .i64 0).wf = true; decide
  go_wp2_with (first
    | (refine map_insert (S := ThS) rfl _ _ _ _ rfl rfl rfl HMM2 hl0 (k := 0) (v := some (m + 1 + 1)) rfl rfl hk0 ?_; intro w3 hm3 hc3)
    | fail)
  go_ret
  have hs3 := hc3.size
  refine ⟨newX w3.heap.size m (m + 1 + 1) (m + 1), by simp [newX], ?_, rel_new _ _ _ _, ?_, ?_⟩
  · have h1 : Chg [m] w2 w3 := hc3
    have hp : Box w3 (m + 1 + 1) 67 #[.bool true, .map (some (m + 1)), .string noB, .int .i64 0] := HBX.out.of (h1.block _ HBX.out.lt (by rw [List.mem_singleton]; omega))
    have he : MapAt EnS w3 (m + 1) [] := HME.out.of (h1.block _ HME.out.lt (by rw [List.mem_singleton]; omega))
    have hlt := hm3.lt
    have hlp := hp.lt
    have hle := he.lt
    have hal := (Below.refl w3.heap.size w3).alloc (Nat.le_refl _) (.cells #[.map (some m), .int .i64 0] 58 (0, 0))
    refine ⟨Box.new w3 _ _, hm3.keep hal, ?_, by show w3.heap.size ≠ m; omega, ?_, ?_⟩
    · intro r hr
      obtain rfl : r = (0, ⟨m + 1 + 1, some (m + 1), ⟨true, [], noB, 0⟩⟩) := by simpa [newX] using hr
      exact ⟨hp.keep hal hlp, he.keep hal, rfl⟩
    · intro r hr
      obtain rfl : r = (0, ⟨m + 1 + 1, some (m + 1), ⟨true, [], noB, 0⟩⟩) := by simpa [newX] using hr
      refine ⟨?_, ?_, ?_⟩
      · show w3.heap.size ∉ [m + 1 + 1, m + 1]
        simp
        omega
      · show m ∉ [m + 1 + 1, m + 1]
        simp
        omega
      · intro e he
        have he : some (m + 1) = some e := he
        have := Option.some.inj he
        show e ≠ m + 1 + 1
        omega
    · intro r hr q hq hne
      obtain rfl : r = (0, ⟨m + 1 + 1, some (m + 1), ⟨true, [], noB, 0⟩⟩) := by simpa [newX] using hr
      obtain rfl : q = (0, ⟨m + 1 + 1, some (m + 1), ⟨true, [], noB, 0⟩⟩) := by simpa [newX] using hq
      exact absurd rfl hne
  · have h1 : Chg [m] w2 w3 := hc3
    have h2 := (Chg.of (S := []) HW2.out (Nat.le_refl _)).then h1 (fun i hi => .inr (by rw [List.mem_singleton.1 hi, HM.out]; exact Nat.le_refl _))
    exact (h2.alloc _).below (Nat.le_refl _) (by simp)
  · intro j hj
    have hx := HM.out
    have := HW2.out.size
    simp [newX, TrD.blocks, RowD.blk] at hj
    rcases hj with h | h | h | h <;> omega
end Go.Proofs.YteimpebfenpifaaGreatDoor

namespace Go.Proofs.YteimpebfenpifaaGreatDoor
open Go Go.RowKit Go.ChangeShapes Go.WideShapes Go.ChangeAt

/-! ### sums over things -/
def fileOf (t : ThD) : Nat := if t.dir then 0 else 1
def dirsOf (t : ThD) : Nat := if t.dir then 1 else 0
def byteOf (t : ThD) : Nat := if t.dir then 0 else t.text.size
def sumK (x : TrD) (f : ThD → Nat) (g : List (Int × Option Nat)) : Nat := (g.map (fun y => match findL x.M.l y.1 with | none => 0 | some t => f t)).sum
def aliveG (G : GD) (n : Nat) : Bool := n == 0 || decide (0 < linksG G n)
/-- Files, directories, bytes: by the document. -/
def countG (G : GD) : Nat × Nat × Nat :=
  (((List.range G.T.length).map (fun n => if aliveG G n && !dirG G n then 1 else 0)).sum, ((List.range G.T.length).map (fun n => if aliveG G n && dirG G n then 1 else 0)).sum,
   ((List.range G.T.length).map (fun n => if aliveG G n && !dirG G n then (textG G n).size else 0)).sum)
theorem sum_perm {l m : List Nat} (h : l.Perm m) : l.sum = m.sum := by
  induction h with
  | nil => rfl
  | cons x _ ih => simp [ih]
  | swap x y l => simp; omega
  | trans _ _ h1 h2 => rw [h1, h2]
theorem sumK_perm (x : TrD) (f : ThD → Nat) {g l : List (Int × Option Nat)} (h : g.Perm l) : sumK x f g = sumK x f l := sum_perm (h.map _)
theorem sumK_snoc (x : TrD) (f : ThD → Nat) (g : List (Int × Option Nat)) (n : Int) (p : Option Nat) {t : ThD} (ht : findL x.M.l n = some t) : sumK x f (g ++ [(n, p)]) = sumK x f g + f t := by
  unfold sumK
  rw [List.map_append, List.sum_append]
  simp [ht]
theorem sum_range {V : Type} (f : V → Nat) : ∀ (b : Nat) (l : List (Int × V)), NoDupL l → (∀ x ∈ l, 0 ≤ x.1 ∧ x.1 < b) → (l.map (fun x => f x.2)).sum = ((List.range b).map (fun n : Nat => match findL l (n : Int) with | none => 0 | some v => f v)).sum
  | 0, [], _, _ => rfl
  | 0, x :: l, _, h => by have := h x List.mem_cons_self; omega
  | b + 1, l, hd, h => by
    have h1 := sum_range f b (dropL l (b : Int)) (hd.drop _) (fun x hx => by
      have h2 := List.mem_filter.1 hx
      have h3 := h x h2.1
      have h4 : x.1 ≠ (b : Int) := by simpa using h2.2
      omega)
    rw [List.range_succ, List.map_append, List.sum_append]
    have h2 : ((List.range b).map (fun n : Nat => match findL l (n : Int) with | none => 0 | some v => f v)) = ((List.range b).map (fun n : Nat => match findL (dropL l (b : Int)) (n : Int) with | none => 0 | some v => f v)) := by
      refine List.map_congr_left (fun n hn => ?_)
      have : (n : Int) ≠ (b : Int) := by have := List.mem_range.1 hn; omega
      rw [dropL_other this]
    rw [h2, ← h1]
    clear h1 h2
    revert hd
    clear h
    induction l with
    | nil => intro _; rfl
    | cons x l ih =>
      intro hd
      have hd' := (List.pairwise_cons.1 hd)
      have ih := ih hd'.2
      by_cases e : x.1 = (b : Int)
      · have hn : findL l (b : Int) = none := findL_none.2 (fun y hy => by rw [← e]; exact Ne.symm (hd'.1 y hy))
        have hdl : dropL (x :: l) (b : Int) = l := by
          unfold dropL
          rw [List.filter_cons]
          simp only [e, decide_true, Bool.not_true, Bool.false_eq_true, if_false]
          exact List.filter_eq_self.2 (fun y hy => by simpa using findL_none.1 hn y hy)
        rw [hdl]
        simp [findL_cons, e]
        omega
      · have hdl : dropL (x :: l) (b : Int) = x :: dropL l (b : Int) := by
          unfold dropL
          rw [List.filter_cons]
          simp [e]
        rw [hdl]
        simp [findL_cons, e] at ih ⊢
        omega
theorem alive_iff {M : MoD} {G : GD} {k : Nat} (h : Rel M G k) (n : Nat) : aliveG G n = (findL M.l (n : Int)).isSome := by
  have hd := h.dom n
  unfold aliveG
  by_cases e : n = 0
  · subst e
    have := hd.2 ⟨[], atE_nil G⟩
    rw [this]
    rfl
  · have hb : (n == 0) = false := by simpa using e
    rw [hb, Bool.false_or]
    cases hs : (findL M.l (n : Int)).isSome with
    | true =>
      obtain ⟨l, hl⟩ := hd.1 hs
      have h0 : l ≠ [] := by intro q; rw [q, atE_nil] at hl; exact e (Option.some.inj hl).symm
      rw [atE_ne h0] at hl
      rw [decide_eq_true_iff]
      unfold linksG
      rw [List.countP_pos_iff]
      exact ⟨_, findL_mem hl, by simp⟩
    | false =>
      rw [decide_eq_false_iff_not]
      intro hp
      unfold linksG at hp
      rw [List.countP_pos_iff] at hp
      obtain ⟨y, hy, hy2⟩ := hp
      have hy2 : y.2 = n := by simpa using hy2
      have : (findL M.l (n : Int)).isSome = true := hd.2 ⟨y.1, by rw [atE_ne (h.wf.ne y hy), findL_of_mem h.wf.nd hy, hy2]⟩
      rw [hs] at this; cases this
theorem sum_tree {x : TrD} {G : GD} {k : Nat} (hr : Rel x.M G k) (hnd : NoDupL x.rows) (f : ThD → Nat) (g : Nat → Nat) (hg : ∀ (n : Nat) t, findL x.M.l (n : Int) = some t → g n = f t) :
    sumK x f (x.rows.map (fun r => (r.1, some r.2.p))) = ((List.range G.T.length).map (fun n => if aliveG G n then g n else 0)).sum := by
  have h1 : sumK x f (x.rows.map (fun r => (r.1, some r.2.p))) = (x.M.l.map (fun y => f y.2)).sum := by
    unfold sumK TrD.M
    dsimp only
    rw [List.map_map, List.map_map]
    congr 1
    refine List.map_congr_left (fun r hm => ?_)
    have : findL x.M.l r.1 = some r.2.t := by rw [x.find, findL_of_mem hnd hm]; rfl
    show (match findL x.M.l r.1 with | none => 0 | some t => f t) = f r.2.t
    rw [this]
  rw [h1, sum_range f G.T.length x.M.l hr.mnd (fun y hy => by
    have h2 := hr.num y.1 y.2 (findL_of_mem hr.mnd hy)
    have h3 := hr.last
    omega)]
  congr 1
  refine List.map_congr_left (fun n _ => ?_)
  rw [alive_iff hr]
  cases e : findL x.M.l (n : Int) with
  | none => rfl
  | some t => simp [hg n t e]
theorem count_tree {x : TrD} {G : GD} {k : Nat} (hr : Rel x.M G k) (hnd : NoDupL x.rows) :
    sumK x fileOf (x.rows.map (fun r => (r.1, some r.2.p))) = (countG G).1 ∧ sumK x dirsOf (x.rows.map (fun r => (r.1, some r.2.p))) = (countG G).2.1 ∧ sumK x byteOf (x.rows.map (fun r => (r.1, some r.2.p))) = (countG G).2.2 := by
  have hb : ∀ (p q : Bool) (v : Nat), (if p = true then (if q = true then v else 0) else 0) = if (p && q) = true then v else 0 := by intro p q v; cases p <;> cases q <;> rfl
  refine ⟨?_, ?_, ?_⟩
  · rw [sum_tree hr hnd fileOf (fun n => if (!dirG G n) = true then 1 else 0) (fun n t ht => by rw [hr.dirs ht]; unfold fileOf; cases t.dir <;> rfl)]
    unfold countG
    simp only [hb]
  · rw [sum_tree hr hnd dirsOf (fun n => if (dirG G n) = true then 1 else 0) (fun n t ht => by rw [hr.dirs ht]; unfold dirsOf; cases t.dir <;> rfl)]
    unfold countG
    simp only [hb]
  · rw [sum_tree hr hnd byteOf (fun n => if (!dirG G n) = true then (textG G n).size else 0) (fun n t ht => by
      rw [hr.dirs ht]
      have : textG G n = t.text := by unfold textG; rw [hr.th n t ht]
      rw [this]
      unfold byteOf; cases t.dir <;> rfl)]
    unfold countG
    simp only [hb]
theorem sumK_le (x : TrD) (f : ThD → Nat) (b : Nat) (hf : ∀ j t, findL x.M.l j = some t → f t ≤ b) : ∀ g : List (Int × Option Nat), sumK x f g ≤ g.length * b
  | [] => by simp [sumK]
  | y :: g => by
    have ih := sumK_le x f b hf g
    unfold sumK at *
    rw [List.map_cons, List.sum_cons, List.length_cons, Nat.add_mul]
    have : (match findL x.M.l y.1 with | none => 0 | some t => f t) ≤ b := by
      cases e : findL x.M.l y.1 with
      | none => exact Nat.zero_le _
      | some t => exact hf _ _ e
    omega
end Go.Proofs.YteimpebfenpifaaGreatDoor

namespace Go.Proofs.YteimpebfenpifaaGreatDoor
open Go Go.RowKit Go.ChangeShapes Go.WideShapes Go.ChangeAt

set_option maxRecDepth 100000 in
set_option maxHeartbeats 4000000 in
theorem count_any {x : TrD} {G : GD} {k : Nat} {w : World} (h : TrAt w x) (hr : Rel x.M G k) (hk : k ≤ 1000000) :
    Calls Tryz.prog 19 #[.pointer (some ⟨x.b, 0, none⟩)] w fun e w' => e = .returned (.tuple #[.int .i64 (countG G).1, .int .i64 (countG G).2.1, .int .i64 (countG G).2.2]) ∧ Below w.heap.size w w' := by
  have HC := Lib.hid (count_tree hr h.nodup)
  have hb1 := fun g => sumK_le x fileOf 16384 (fun j t ht => by unfold fileOf; split <;> omega) g
  have hb2 := fun g => sumK_le x dirsOf 16384 (fun j t ht => by unfold dirsOf; split <;> omega) g
  have hb3 := fun g => sumK_le x byteOf 16384 (fun j t ht => by
    unfold byteOf
    split
    · omega
    · obtain ⟨n, rfl, _⟩ := hr.nat ht
      have := hr.wf.small n
      unfold textG at this
      rw [hr.th n t ht] at this
      exact this) g
  have HB1 := Lib.hid hb1
  have HB2 := Lib.hid hb2
  have HB3 := Lib.hid hb3
  have HRL : Hid (x.rows.length ≤ 1000001) := by have := h.rows_len hr; show _ ≤ _; omega
  have HT := Lib.hid h
  have HX := Lib.hid hr
  have HMD := Lib.hid (made_any h)
  have HML := Lib.hid h.map
  obtain ⟨rl, hrl⟩ : ∃ rl, rl = x.rows.map (fun r => (r.1, some r.2.p)) := ⟨_, rfl⟩
  rw [← hrl] at HML HC
  have HRLN : Hid (rl.length = x.rows.length ∧ ∀ n p, findL rl n = some p → ∃ r, findL x.rows n = some r ∧ p = some r.p) := by
    refine ⟨by rw [hrl, List.length_map], fun n p hp => ?_⟩
    rw [hrl, x.findP] at hp
    obtain ⟨r, h1, h2⟩ := Option.map_eq_some_iff.1 hp
    exact ⟨r, h1, h2.symm⟩
  clear hrl hb1 hb2 hb3 h hr
  go_enter Tryz.func19, Tryz.ntmps19
  go_wp2_with fail
  refine HMD.out.mono ?_
  rintro e w' ⟨rfl, rfl⟩
  have t0 : w'.cell? ⟨x.b, 0, none⟩ = some (.map (some x.m)) := HT.out.box.cell 0 _ rfl
  clear HMD
  go_wp2_with (first
    | (at_range; refine map_range (S := ThS) rfl _ _ rfl rfl rfl HML.out ?_; intro w1 hr1 hb1 hs1)
    | fail)
  go_frame
  obtain ⟨r, hrs⟩ : ∃ r, r = w'.heap.size := ⟨_, rfl⟩
  rw [← hrs] at hr1 ⊢
  have HR := Lib.hid hrs
  have HB := Lib.hid hb1
  clear t0 hs1 hb1 hrs
  go_loopw [5, 6, 7] (fun a b c wr => ∃ (gone : List (Int × Option Nat)) (cnt : Nat), a = .int .i64 (sumK x fileOf gone) ∧ b = .int .i64 (sumK x dirsOf gone) ∧ c = .int .i64 (sumK x byteOf gone) ∧ MapRun ThS wr x.m r rl gone cnt ∧ Hid (gone.length ≤ rl.length) ∧ Hid (Below w'.heap.size w' wr)) (fun _ _ _ wr => wr.rangeLeft x.m r)
  case atStart => exact ⟨[], _, rfl, rfl, rfl, hr1, Nat.zero_le _, HB.out⟩
  case round =>
    rename_i hkl
    obtain ⟨gone, cnt, rfl, rfl, rfl, hrun, HGL, HBW⟩ := hrel
    have HRUN := Lib.hid hrun
    go_wp2_with (first
      | (at_next; refine map_next (S := ThS) rfl _ rfl rfl hrun ?_ ?_)
      | fail)
    · intro hperm
      obtain ⟨c1, c2, c3⟩ := HC.out
      have e1 := (sumK_perm x fileOf hperm).trans c1
      have e2 := (sumK_perm x dirsOf hperm).trans c2
      have e3 := (sumK_perm x byteOf hperm).trans c3
      rw [e1, e2, e3]
      clear e1 e2 e3 c1 c2 c3 hperm hrun
      go_wp2
      go_ret3
      exact ⟨rfl, HBW.out⟩
    · intro n p w2 cnt2 hfind hok hgn hrun2 hlt hc2 hs2 hen
      obtain ⟨q, hq, rfl⟩ := HRLN.out.2 n p hfind
      have HRUN2 := Lib.hid hrun2
      have HLT : Hid (cnt2 < cnt) := hlt
      have HC2 := Lib.hid hc2
      have hta : TrAt w2 x := (HT.out.keep HBW.out).chg hc2 (fun j hj hm => by
        rw [List.mem_singleton.1 hm] at hj
        have h1 := HT.out.lt r hj
        have h2 := HR.out
        omega)
      have hfm := find_of_row hq
      have hra := hta.at_ hq
      have d0 : w2.cell? ⟨q.p, 0, none⟩ = some (.bool q.t.dir) := hra.1.cell 0 _ rfl
      have d2 : w2.cell? ⟨q.p, 2, none⟩ = some (.string q.t.text) := hra.1.cell 2 _ rfl
      have s1 := sumK_snoc x fileOf gone n (some q.p) hfm
      have s2 := sumK_snoc x dirsOf gone n (some q.p) hfm
      have s3 := sumK_snoc x byteOf gone n (some q.p) hfm
      have b1 := HB1.out (gone ++ [(n, some q.p)])
      have b2 := HB2.out (gone ++ [(n, some q.p)])
      have b3 := HB3.out (gone ++ [(n, some q.p)])
      have hgl2 : (gone ++ [(n, some q.p)]).length ≤ rl.length := by
        obtain ⟨D, left, _, _, hp, _⟩ := hrun2
        have h1 := hp.length_eq
        rw [List.length_append] at h1
        omega
      have HGL2 : Hid ((gone ++ [(n, some q.p)]).length ≤ rl.length) := hgl2
      have hrz := HRLN.out.1
      have hrz2 := HRL.out
      have HBW2 : Hid (Below w'.heap.size w' w2) := HBW.out.trans (hc2.below HBW.out.size (fun k hk => by rw [List.mem_singleton.1 hk, HR.out]; exact Nat.le_refl _))
      have hmul : (gone ++ [(n, some q.p)]).length * 16384 ≤ 1000001 * 16384 := Nat.mul_le_mul_right _ (by omega)
      have hvv : ThS.vv (some q.p) = .pointer (some ⟨q.p, 0, none⟩) := rfl
      have hkv : ThS.kv n = .int .i64 n := rfl
      cases hd : q.t.dir with
      | true =>
        rw [hd] at d0
        rw [show fileOf q.t = 0 by unfold fileOf; rw [hd]; rfl] at s1
        rw [show dirsOf q.t = 1 by unfold dirsOf; rw [hd]; rfl] at s2
        rw [show byteOf q.t = 0 by unfold byteOf; rw [hd]; rfl] at s3
        have hw : IntKind.i64.wrap ((sumK x dirsOf gone : Nat) + 1 : Int) = ((sumK x dirsOf gone : Nat) + 1 : Int) := IntWalk.i64_in _ ⟨by omega, by omega⟩
        have HS1 : Hid (sumK x fileOf (gone ++ [(n, some q.p)]) = sumK x fileOf gone) := s1
        have HS2 : Hid (sumK x dirsOf (gone ++ [(n, some q.p)]) = sumK x dirsOf gone + 1) := s2
        have HS3 : Hid (sumK x byteOf (gone ++ [(n, some q.p)]) = sumK x byteOf gone) := s3
        clear s1 s2 s3 b1 b2 b3 hgl2 hrz hrz2 hmul hrun2 hlt hc2 hs2 hfind hok hgn hta hfm hra hq hkl hrun d2
        go_wp2
        go_roundw
        case rel => exact ⟨_, _, by rw [HS1.out], by rw [HS2.out]; rfl, by rw [HS3.out], HRUN2.out, HGL2, HBW2⟩
        case measure => rw [HRUN2.out.left, HRUN.out.left]; exact HLT.out
      | false =>
        rw [hd] at d0
        rw [show fileOf q.t = 1 by unfold fileOf; rw [hd]; rfl] at s1
        rw [show dirsOf q.t = 0 by unfold dirsOf; rw [hd]; rfl] at s2
        rw [show byteOf q.t = q.t.text.size by unfold byteOf; rw [hd]; rfl] at s3
        have hw1 : IntKind.i64.wrap ((sumK x fileOf gone : Nat) + 1 : Int) = ((sumK x fileOf gone : Nat) + 1 : Int) := IntWalk.i64_in _ ⟨by omega, by omega⟩
        have hw2 : IntKind.i64.wrap ((sumK x byteOf gone : Nat) + (q.t.text.size : Nat) : Int) = ((sumK x byteOf gone : Nat) + (q.t.text.size : Nat) : Int) := IntWalk.i64_in _ ⟨by omega, by omega⟩
        have HS1 : Hid (sumK x fileOf (gone ++ [(n, some q.p)]) = sumK x fileOf gone + 1) := s1
        have HS2 : Hid (sumK x dirsOf (gone ++ [(n, some q.p)]) = sumK x dirsOf gone) := s2
        have HS3 : Hid (sumK x byteOf (gone ++ [(n, some q.p)]) = sumK x byteOf gone + q.t.text.size) := s3
        clear s1 s2 s3 b1 b2 b3 hgl2 hrz hrz2 hmul hrun2 hlt hc2 hs2 hfind hok hgn hta hfm hra hq hkl hrun
        go_wp2
        go_roundw
        case rel => exact ⟨_, _, by rw [HS1.out]; rfl, by rw [HS2.out], by rw [HS3.out]; rfl, HRUN2.out, HGL2, HBW2⟩
        case measure => rw [HRUN2.out.left, HRUN.out.left]; exact HLT.out
set_option maxRecDepth 100000 in
theorem count_nil (w : World) : Calls Tryz.prog 19 #[.pointer none] w fun e w' => e = .returned (.tuple #[.int .i64 0, .int .i64 0, .int .i64 0]) ∧ w' = w := by
  go_enter Tryz.func19, Tryz.ntmps19
  go_wp2_with fail
  refine (made_nil _).mono ?_
  rintro e w' ⟨rfl, rfl⟩
  go_wp2
  go_ret3
  exact ⟨rfl, rfl⟩
set_option maxRecDepth 100000 in
theorem copy_nil (w : World) : Calls Tryz.prog 14 #[.pointer none] w fun e w' => e = .returned (.pointer none) ∧ w' = w := by
  go_enter Tryz.func14, Tryz.ntmps14
  go_wp2_with fail
  refine (made_nil _).mono ?_
  rintro e w' ⟨rfl, rfl⟩
  go_wp2
  go_ret
  exact ⟨rfl, rfl⟩
end Go.Proofs.YteimpebfenpifaaGreatDoor

namespace Go.Proofs.YteimpebfenpifaaGreatDoor
open Go Go.RowKit Go.ChangeShapes Go.WideShapes Go.ChangeAt

theorem Rel.perm {M M' : MoD} {G : GD} {k : Nat} (h : Rel M G k) (hp : M.l.Perm M'.l) (hl : M'.last = M.last) : Rel M' G k := by
  have hf : ∀ j, findL M'.l j = findL M.l j := fun j => (findL_perm hp h.mnd j).symm
  exact ⟨h.wf, h.mnd.perm hp, by rw [hl]; exact h.last, fun j t ht => by rw [hl]; exact h.num j t (by rw [← hf]; exact ht), fun n => by rw [hf]; exact h.dom n, fun n t ht => h.th n t (by rw [← hf]; exact ht), fun n t ht => h.nds n t (by rw [← hf]; exact ht),
    fun l n t hl ht => h.ent l n t hl (by rw [← hf]; exact ht), fun n t ht => h.file n t (by rw [← hf]; exact ht), h.bE, h.bT⟩
def pushR (y : TrD) (n : Int) (r : RowD) : TrD := { y with rows := y.rows ++ [(n, r)] }
theorem pushR_blk (y : TrD) (n : Int) (r : RowD) : ∀ k ∈ (pushR y n r).blocks, k ∈ y.blocks ∨ k ∈ r.blk := by
  intro k hk
  unfold TrD.blocks pushR at *
  dsimp only at hk
  rcases List.mem_cons.1 hk with h | hk
  · rw [h]; simp
  · rcases List.mem_cons.1 hk with h | hk
    · rw [h]; simp
    · obtain ⟨q, hq, hk⟩ := List.mem_flatMap.1 hk
      rcases List.mem_append.1 hq with hq | hq
      · exact .inl (List.mem_cons_of_mem _ (List.mem_cons_of_mem _ (List.mem_flatMap.2 ⟨q, hq, hk⟩)))
      · rw [List.mem_singleton.1 hq] at hk; exact .inr hk
theorem TrAt.push {w w' : World} {y : TrD} {n : Int} {r : RowD} (h : TrAt w y) (hnone : findL y.rows n = none) (hc : Chg [y.m] w w')
    (hm : MapAt ThS w' y.m (putL (y.rows.map (fun r => (r.1, some r.2.p))) n (some r.p))) (ha : RowAt w' r) (hs : ∀ k ∈ r.blk, k ∉ y.blocks) (he : ∀ e, r.em = some e → e ≠ r.p) : TrAt w' (pushR y n r) := by
  have hn2 : findL (y.rows.map (fun r => (r.1, some r.2.p))) n = none := by rw [TrD.findP, hnone]; rfl
  rw [putL_new hn2] at hm
  have hrow : ∀ q ∈ y.rows, ∀ k ∈ q.2.blk, k ∈ y.blocks := fun q hq k hk => by
    unfold TrD.blocks
    exact List.mem_cons_of_mem _ (List.mem_cons_of_mem _ (List.mem_flatMap.2 ⟨q, hq, hk⟩))
  refine ⟨h.box.of (hc.block _ h.box.lt (by simpa using h.bm)), ?_, ?_, h.bm, ?_, ?_⟩
  · unfold pushR
    dsimp only
    rw [List.map_append]
    exact hm
  · intro q hq
    unfold pushR at hq
    rcases List.mem_append.1 hq with hq | hq
    · have hs := h.self q hq
      refine (h.row q hq).of (fun k hk => hc.block k ((h.row q hq).lt k hk) ?_)
      intro hm
      rw [List.mem_singleton.1 hm] at hk
      exact hs.2.1 hk
    · rw [List.mem_singleton.1 hq]; exact ha
  · intro q hq
    unfold pushR at hq
    rcases List.mem_append.1 hq with hq | hq
    · exact h.self q hq
    · rw [List.mem_singleton.1 hq]
      exact ⟨fun hk => hs _ hk (by simp [TrD.blocks, pushR]), fun hk => hs _ hk (by simp [TrD.blocks, pushR]), he⟩
  · intro q hq q' hq' hne k hk hk'
    unfold pushR at hq hq'
    rcases List.mem_append.1 hq with hq | hq
    · rcases List.mem_append.1 hq' with hq' | hq'
      · exact h.disj q hq q' hq' hne k hk hk'
      · rw [List.mem_singleton.1 hq'] at hk'
        exact hs k hk' (hrow q hq k hk)
    · rcases List.mem_append.1 hq' with hq' | hq'
      · rw [List.mem_singleton.1 hq] at hk
        exact hs k hk (hrow q' hq' k hk')
      · rw [List.mem_singleton.1 hq, List.mem_singleton.1 hq'] at hne
        exact hne rfl
def thOf (x : TrD) (n : Int) : ThD := (findL x.M.l n).getD ⟨true, [], noB, 0⟩
/-- What the copy has so far: block b, map m; of x the things that were handed out. -/
structure CpI (x : TrD) (B b m r : Nat) (gone : List (Int × Option Nat)) (y : TrD) (W : World) : Prop where
  yb : y.b = b
  ym : y.m = m
  yl : y.last = x.last
  at_ : TrAt W y
  l : y.M.l = gone.map (fun z => (z.1, thOf x z.1))
  lo : ∀ j ∈ y.blocks, B ≤ j ∧ j ≠ r
theorem CpI.gone_ {x : TrD} {B b m r : Nat} {gone : List (Int × Option Nat)} {y : TrD} {W : World} (h : CpI x B b m r gone y W) {n : Int} (hn : findL gone n = none) : findL y.rows n = none := by
  have : findL y.M.l n = none := by
    rw [h.l, findL_map (fun (z : Int) (_ : Option Nat) => thOf x z), hn]; rfl
  rw [y.find] at this
  exact Option.map_eq_none_iff.1 this
theorem CpI.len {x : TrD} {B b m r : Nat} {gone : List (Int × Option Nat)} {y : TrD} {W : World} (h : CpI x B b m r gone y W) : y.rows.length = gone.length := by
  have := congrArg List.length h.l
  unfold TrD.M at this
  simpa using this
theorem CpI.end_ {x : TrD} {G : GD} {k : Nat} {B b m r : Nat} {gone : List (Int × Option Nat)} {y : TrD} {W : World} (h : CpI x B b m r gone y W) (hr : Rel x.M G k) (hnd : NoDupL x.rows) (hp : gone.Perm (x.rows.map (fun r => (r.1, some r.2.p)))) : Rel y.M G k := by
  refine hr.perm ?_ h.yl
  rw [h.l]
  refine List.Perm.trans ?_ (hp.symm.map _)
  rw [List.map_map]
  unfold TrD.M
  dsimp only
  refine List.Perm.of_eq (List.map_congr_left (fun q hq => ?_))
  show (q.1, q.2.t) = (q.1, thOf x q.1)
  unfold thOf
  rw [x.find, findL_of_mem hnd hq]
  rfl
end Go.Proofs.YteimpebfenpifaaGreatDoor
