/-
  Texts put together: MoW, MoX.
-/
import Derived.Test.YteimpebfenpifaaGreatDoorMoV
namespace Go.Proofs.YteimpebfenpifaaGreatDoor
open Go Go.RowKit Go.ChangeShapes Go.WideShapes Go.ChangeAt

/-- An entry of a map that is made at once. -/
theorem map_insert {P : Program} {K V : Type} [DecidableEq K] {S : MapSp P K V} {w : World} {ops : Array Oper} {rest : List Oper} {o : Oper} {a : Act} {Q : Exit → Act → World → Prop} (hg : o.guard = none) (x y u : Operand) (t : TypeId) (hop : o.op = Op.insert t x y u) (ht : t = S.t)
    {m : Nat} {l : List (K × V)} (hm : a.eval x = .map (some m)) (h : MapAt S w m l) (hn : l.length < maxLen) {k : K} {v : V} (hx : a.eval y = S.kv k) (hu : a.eval u = S.vv v) (hk : S.okK k)
    (hK : ∀ w', MapAt S w' m (putL l k v) → Chg [m] w w' → wpList P ops Q rest (a.put o.dst undef) w') :
    wpList P ops Q (o :: rest) a w := by
  subst ht
  obtain ⟨D, hown, hM⟩ := h
  refine wpList_plain hg fun K' hK' => ?_
  obtain ⟨w', hrun, r1, r2⟩ := hown.update S.keyed S.und hn (S.keyOf k hk) (S.rdMk v)
  unfold Oper.wp
  simp [execOp, hop, hm, hx, hu, hrun, Result.andThen]
  exact hK' _ _ (hK w' (MapAt.put hM hown hk r1) (Chg.only r2))

def newG : GD := ⟨[], [⟨true, noB⟩]⟩
def newX (b m p me : Nat) : TrD := ⟨b, m, [(0, ⟨p, some me, ⟨true, [], noB, 0⟩⟩)], 0⟩
theorem rel_new (b m p me : Nat) : Rel (newX b m p me).M newG 0 := by
  have hat : ∀ l, atE newG l = if l = [] then some 0 else none := fun l => by
    unfold atE
    split
    · rfl
    · rfl
  have hf : ∀ j : Int, findL (newX b m p me).M.l j = if j = 0 then some ⟨true, [], noB, 0⟩ else none := by
    intro j
    show findL [((0 : Int), (⟨true, [], noB, 0⟩ : ThD))] j = _
    rw [findL_cons]
    by_cases e : j = 0
    · subst e; rfl
    · rw [if_neg (Ne.symm e), if_neg e]; rfl
  refine ⟨⟨List.Pairwise.nil, by simp [newG], by simp [newG], ?_, rfl, ?_, by simp [newG], ?_⟩, by simp [newX, TrD.M, NoDupL], rfl, ?_, ?_, ?_, ?_, ?_, ?_, by simp [newG], by simp [newG]⟩
  · intro l c h
    rw [hat, if_neg (snoc_ne l c)] at h
    cases h
  · intro l l' n h1 h2 _
    rw [hat] at h1 h2
    by_cases e : l = []
    · by_cases e2 : l' = []
      · rw [e, e2]
      · rw [if_neg e2] at h2; cases h2
    · rw [if_neg e] at h1; cases h1
  · intro n
    unfold textG newG
    cases n with
    | zero => exact Nat.zero_le _
    | succ n => exact Nat.zero_le _
  · intro j t h
    rw [hf] at h
    by_cases e : j = 0
    · subst e; exact ⟨Int.le_refl _, Int.le_refl _⟩
    · rw [if_neg e] at h; cases h
  · intro n
    rw [hf]
    constructor
    · intro h
      by_cases e : (n : Int) = 0
      · exact ⟨[], by rw [hat, if_pos rfl]; congr 1; omega⟩
      · rw [if_neg e] at h; cases h
    · rintro ⟨l, hl⟩
      rw [hat] at hl
      by_cases e : l = []
      · rw [if_pos e] at hl
        have := Option.some.inj hl
        rw [if_pos (by omega)]; rfl
      · rw [if_neg e] at hl; cases hl
  · intro n t h
    rw [hf] at h
    by_cases e : (n : Int) = 0
    · rw [if_pos e] at h
      cases h
      have : n = 0 := by omega
      subst this
      rfl
    · rw [if_neg e] at h; cases h
  · intro n t h
    rw [hf] at h
    by_cases e : (n : Int) = 0
    · rw [if_pos e] at h
      cases h
      exact ⟨List.Pairwise.nil, Nat.le_refl _⟩
    · rw [if_neg e] at h; cases h
  · intro l n t _ h c
    rw [hf] at h
    rw [hat, if_neg (snoc_ne l c)]
    by_cases e : (n : Int) = 0
    · rw [if_pos e] at h
      cases h
      rfl
    · rw [if_neg e] at h; cases h
  · intro n t h hd
    rw [hf] at h
    by_cases e : (n : Int) = 0
    · rw [if_pos e] at h
      cases h
      cases hd
    · rw [if_neg e] at h; cases h

set_option maxRecDepth 100000 in
set_option maxHeartbeats 2000000 in
theorem new_any (w : World) : Calls Tryz.prog 12 #[] w fun e w' => ∃ x : TrD, e = .returned (.pointer (some ⟨x.b, 0, none⟩)) ∧ TrAt w' x ∧ Rel x.M newG 0 ∧ Below w.heap.size w w' ∧ ∀ j ∈ x.blocks, w.heap.size ≤ j := by
  have hmm := @run_makeMap Tryz.prog
  obtain ⟨m, hm⟩ : ∃ m, m = w.heap.size := ⟨_, rfl⟩
  have HM := Lib.hid hm
  have HW1 := Lib.hid ((Below.refl w.heap.size w).alloc (Nat.le_refl _) (.map #[] 0))
  have hmap := MapAt.made ThS w
  have HND := Lib.hid (newDir_any (w.alloc (.map #[] 0)))
  have HS1 : Hid ((w.alloc (.map #[] 0)).heap.size = m + 1) := by show _ = _; rw [size_alloc, hm]
  have HMM := Lib.hid hmap
  rw [← hm] at HMM
  clear hmap
  go_enter Tryz.func12, Tryz.ntmps12
  go_wp2_with fail
  rw [← hm]
  clear hm hmm
  generalize World.alloc w _ = w1 at *
  refine HND.out.mono ?_
  rintro e w2 ⟨rfl, hb, hbx, hme⟩
  rw [HS1.out] at hbx hme ⊢
  have HMM2 := HMM.out.keep hb
  have HBX := Lib.hid hbx
  have HME := Lib.hid hme
  have HW2 := Lib.hid (HW1.out.trans (hb.mono HW1.out.size))
  have HML : Hid (m < w2.heap.size) := HMM2.lt
  clear hb hbx hme HND HMM
  have hl0 : ([] : List (Int × Option Nat)).length < maxLen := by unfold maxLen; simp
  have hk0 : ThS.okK 0 := by show (Lit.int .i64 0).wf = true; decide
  go_wp2_with (first
    | (refine map_insert (S := ThS) rfl _ _ _ _ rfl rfl rfl HMM2 hl0 (k := 0) (v := some (m + 1 + 1)) rfl rfl hk0 ?_; intro w3 hm3 hc3)
    | fail)
  go_ret
  have hs3 := hc3.size
  refine ⟨newX w3.heap.size m (m + 1 + 1) (m + 1), by simp [newX], ?_, rel_new _ _ _ _, ?_, ?_⟩
  · have h1 : Chg [m] w2 w3 := hc3
    have hp : Box w3 (m + 1 + 1) 67 #[.bool true, .map (some (m + 1)), .string noB, .int .i64 0] := HBX.out.of (h1.block _ HBX.out.lt (by rw [List.mem_singleton]; omega))
    have he : MapAt EnS w3 (m + 1) [] := HME.out.of (h1.block _ HME.out.lt (by rw [List.mem_singleton]; omega))
    have hlt := hm3.lt
    have hlp := hp.lt
    have hle := he.lt
    have hal := (Below.refl w3.heap.size w3).alloc (Nat.le_refl _) (.cells #[.map (some m), .int .i64 0] 58 (0, 0))
    refine ⟨Box.new w3 _ _, hm3.keep hal, ?_, by show w3.heap.size ≠ m; omega, ?_, ?_⟩
    · intro r hr
      obtain rfl : r = (0, ⟨m + 1 + 1, some (m + 1), ⟨true, [], noB, 0⟩⟩) := by simpa [newX] using hr
      exact ⟨hp.keep hal hlp, he.keep hal, rfl⟩
    · intro r hr
      obtain rfl : r = (0, ⟨m + 1 + 1, some (m + 1), ⟨true, [], noB, 0⟩⟩) := by simpa [newX] using hr
      refine ⟨?_, ?_, ?_⟩
      · show w3.heap.size ∉ [m + 1 + 1, m + 1]
        simp
        omega
      · show m ∉ [m + 1 + 1, m + 1]
        simp
        omega
      · intro e he
        have he : some (m + 1) = some e := he
        have := Option.some.inj he
        show e ≠ m + 1 + 1
        omega
    · intro r hr q hq hne
      obtain rfl : r = (0, ⟨m + 1 + 1, some (m + 1), ⟨true, [], noB, 0⟩⟩) := by simpa [newX] using hr
      obtain rfl : q = (0, ⟨m + 1 + 1, some (m + 1), ⟨true, [], noB, 0⟩⟩) := by simpa [newX] using hq
      exact absurd rfl hne
  · have h1 : Chg [m] w2 w3 := hc3
    have h2 := (Chg.of (S := []) HW2.out (Nat.le_refl _)).then h1 (fun i hi => .inr (by rw [List.mem_singleton.1 hi, HM.out]; exact Nat.le_refl _))
    exact (h2.alloc _).below (Nat.le_refl _) (by simp)
  · intro j hj
    have hx := HM.out
    have := HW2.out.size
    simp [newX, TrD.blocks, RowD.blk] at hj
    rcases hj with h | h | h | h <;> omega
end Go.Proofs.YteimpebfenpifaaGreatDoor

namespace Go.Proofs.YteimpebfenpifaaGreatDoor
open Go Go.RowKit Go.ChangeShapes Go.WideShapes Go.ChangeAt

/-! ### sums over things -/
def fileOf (t : ThD) : Nat := if t.dir then 0 else 1
def dirsOf (t : ThD) : Nat := if t.dir then 1 else 0
def byteOf (t : ThD) : Nat := if t.dir then 0 else t.text.size
def sumK (x : TrD) (f : ThD → Nat) (g : List (Int × Option Nat)) : Nat := (g.map (fun y => match findL x.M.l y.1 with | none => 0 | some t => f t)).sum
def aliveG (G : GD) (n : Nat) : Bool := n == 0 || decide (0 < linksG G n)
/-- Files, directories, bytes: by the document. -/
def countG (G : GD) : Nat × Nat × Nat :=
  (((List.range G.T.length).map (fun n => if aliveG G n && !dirG G n then 1 else 0)).sum, ((List.range G.T.length).map (fun n => if aliveG G n && dirG G n then 1 else 0)).sum,
   ((List.range G.T.length).map (fun n => if aliveG G n && !dirG G n then (textG G n).size else 0)).sum)
theorem sum_perm {l m : List Nat} (h : l.Perm m) : l.sum = m.sum := by
  induction h with
  | nil => rfl
  | cons x _ ih => simp [ih]
  | swap x y l => simp; omega
  | trans _ _ h1 h2 => rw [h1, h2]
theorem sumK_perm (x : TrD) (f : ThD → Nat) {g l : List (Int × Option Nat)} (h : g.Perm l) : sumK x f g = sumK x f l := sum_perm (h.map _)
theorem sumK_snoc (x : TrD) (f : ThD → Nat) (g : List (Int × Option Nat)) (n : Int) (p : Option Nat) {t : ThD} (ht : findL x.M.l n = some t) : sumK x f (g ++ [(n, p)]) = sumK x f g + f t := by
  unfold sumK
  rw [List.map_append, List.sum_append]
  simp [ht]
theorem sum_range {V : Type} (f : V → Nat) : ∀ (b : Nat) (l : List (Int × V)), NoDupL l → (∀ x ∈ l, 0 ≤ x.1 ∧ x.1 < b) → (l.map (fun x => f x.2)).sum = ((List.range b).map (fun n : Nat => match findL l (n : Int) with | none => 0 | some v => f v)).sum
  | 0, [], _, _ => rfl
  | 0, x :: l, _, h => by have := h x List.mem_cons_self; omega
  | b + 1, l, hd, h => by
    have h1 := sum_range f b (dropL l (b : Int)) (hd.drop _) (fun x hx => by
      have h2 := List.mem_filter.1 hx
      have h3 := h x h2.1
      have h4 : x.1 ≠ (b : Int) := by simpa using h2.2
      omega)
    rw [List.range_succ, List.map_append, List.sum_append]
    have h2 : ((List.range b).map (fun n : Nat => match findL l (n : Int) with | none => 0 | some v => f v)) = ((List.range b).map (fun n : Nat => match findL (dropL l (b : Int)) (n : Int) with | none => 0 | some v => f v)) := by
      refine List.map_congr_left (fun n hn => ?_)
      have : (n : Int) ≠ (b : Int) := by have := List.mem_range.1 hn; omega
      rw [dropL_other this]
    rw [h2, ← h1]
    clear h1 h2
    revert hd
    clear h
    induction l with
    | nil => intro _; rfl
    | cons x l ih =>
      intro hd
      have hd' := (List.pairwise_cons.1 hd)
      have ih := ih hd'.2
      by_cases e : x.1 = (b : Int)
      · have hn : findL l (b : Int) = none := findL_none.2 (fun y hy => by rw [← e]; exact Ne.symm (hd'.1 y hy))
        have hdl : dropL (x :: l) (b : Int) = l := by
          unfold dropL
          rw [List.filter_cons]
          simp only [e, decide_true, Bool.not_true, Bool.false_eq_true, if_false]
          exact List.filter_eq_self.2 (fun y hy => by simpa using findL_none.1 hn y hy)
        rw [hdl]
        simp [findL_cons, e]
        omega
      · have hdl : dropL (x :: l) (b : Int) = x :: dropL l (b : Int) := by
          unfold dropL
          rw [List.filter_cons]
          simp [e]
        rw [hdl]
        simp [findL_cons, e] at ih ⊢
        omega
theorem alive_iff {M : MoD} {G : GD} {k : Nat} (h : Rel M G k) (n : Nat) : aliveG G n = (findL M.l (n : Int)).isSome := by
  have hd := h.dom n
  unfold aliveG
  by_cases e : n = 0
  · subst e
    have := hd.2 ⟨[], atE_nil G⟩
    rw [this]
    rfl
  · have hb : (n == 0) = false := by simpa using e
    rw [hb, Bool.false_or]
    cases hs : (findL M.l (n : Int)).isSome with
    | true =>
      obtain ⟨l, hl⟩ := hd.1 hs
      have h0 : l ≠ [] := by intro q; rw [q, atE_nil] at hl; exact e (Option.some.inj hl).symm
      rw [atE_ne h0] at hl
      rw [decide_eq_true_iff]
      unfold linksG
      rw [List.countP_pos_iff]
      exact ⟨_, findL_mem hl, by simp⟩
    | false =>
      rw [decide_eq_false_iff_not]
      intro hp
      unfold linksG at hp
      rw [List.countP_pos_iff] at hp
      obtain ⟨y, hy, hy2⟩ := hp
      have hy2 : y.2 = n := by simpa using hy2
      have : (findL M.l (n : Int)).isSome = true := hd.2 ⟨y.1, by rw [atE_ne (h.wf.ne y hy), findL_of_mem h.wf.nd hy, hy2]⟩
      rw [hs] at this; cases this
theorem sum_tree {x : TrD} {G : GD} {k : Nat} (hr : Rel x.M G k) (hnd : NoDupL x.rows) (f : ThD → Nat) (g : Nat → Nat) (hg : ∀ (n : Nat) t, findL x.M.l (n : Int) = some t → g n = f t) :
    sumK x f (x.rows.map (fun r => (r.1, some r.2.p))) = ((List.range G.T.length).map (fun n => if aliveG G n then g n else 0)).sum := by
  have h1 : sumK x f (x.rows.map (fun r => (r.1, some r.2.p))) = (x.M.l.map (fun y => f y.2)).sum := by
    unfold sumK TrD.M
    dsimp only
    rw [List.map_map, List.map_map]
    congr 1
    refine List.map_congr_left (fun r hm => ?_)
    have : findL x.M.l r.1 = some r.2.t := by rw [x.find, findL_of_mem hnd hm]; rfl
    show (match findL x.M.l r.1 with | none => 0 | some t => f t) = f r.2.t
    rw [this]
  rw [h1, sum_range f G.T.length x.M.l hr.mnd (fun y hy => by
    have h2 := hr.num y.1 y.2 (findL_of_mem hr.mnd hy)
    have h3 := hr.last
    omega)]
  congr 1
  refine List.map_congr_left (fun n _ => ?_)
  rw [alive_iff hr]
  cases e : findL x.M.l (n : Int) with
  | none => rfl
  | some t => simp [hg n t e]
theorem count_tree {x : TrD} {G : GD} {k : Nat} (hr : Rel x.M G k) (hnd : NoDupL x.rows) :
    sumK x fileOf (x.rows.map (fun r => (r.1, some r.2.p))) = (countG G).1 ∧ sumK x dirsOf (x.rows.map (fun r => (r.1, some r.2.p))) = (countG G).2.1 ∧ sumK x byteOf (x.rows.map (fun r => (r.1, some r.2.p))) = (countG G).2.2 := by
  have hb : ∀ (p q : Bool) (v : Nat), (if p = true then (if q = true then v else 0) else 0) = if (p && q) = true then v else 0 := by intro p q v; cases p <;> cases q <;> rfl
  refine ⟨?_, ?_, ?_⟩
  · rw [sum_tree hr hnd fileOf (fun n => if (!dirG G n) = true then 1 else 0) (fun n t ht => by rw [hr.dirs ht]; unfold fileOf; cases t.dir <;> rfl)]
    unfold countG
    simp only [hb]
  · rw [sum_tree hr hnd dirsOf (fun n => if (dirG G n) = true then 1 else 0) (fun n t ht => by rw [hr.dirs ht]; unfold dirsOf; cases t.dir <;> rfl)]
    unfold countG
    simp only [hb]
  · rw [sum_tree hr hnd byteOf (fun n => if (!dirG G n) = true then (textG G n).size else 0) (fun n t ht => by
      rw [hr.dirs ht]
      have : textG G n = t.text := by unfold textG; rw [hr.th n t ht]
      rw [this]
      unfold byteOf; cases t.dir <;> rfl)]
    unfold countG
    simp only [hb]
theorem sumK_le (x : TrD) (f : ThD → Nat) (b : Nat) (hf : ∀ j t, findL x.M.l j = some t → f t ≤ b) : ∀ g : List (Int × Option Nat), sumK x f g ≤ g.length * b
  | [] => by simp [sumK]
  | y :: g => by
    have ih := sumK_le x f b hf g
    unfold sumK at *
    rw [List.map_cons, List.sum_cons, List.length_cons, Nat.add_mul]
    have : (match findL x.M.l y.1 with | none => 0 | some t => f t) ≤ b := by
      cases e : findL x.M.l y.1 with
      | none => exact Nat.zero_le _
      | some t => exact hf _ _ e
    omega
end Go.Proofs.YteimpebfenpifaaGreatDoor
