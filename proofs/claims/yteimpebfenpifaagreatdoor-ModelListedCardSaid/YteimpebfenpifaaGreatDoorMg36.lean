/-
  Texts put together: MoY, MoCp.
-/
import Derived.Test.YteimpebfenpifaaGreatDoorMg35
namespace Go.Proofs.YteimpebfenpifaaGreatDoor
open Go Go.RowKit Go.ChangeShapes Go.WideShapes Go.ChangeAt

set_option maxRecDepth 100000 in
set_option maxHeartbeats 4000000 in
theorem count_any {x : TrD} {G : GD} {k : Nat} {w : World} (h : TrAt w x) (hr : Rel x.M G k) (hk : k ≤ 1000000) :
    Calls Tryz.prog 19 #[.pointer (some ⟨x.b, 0, none⟩)] w fun e w' => e = .returned (.tuple #[.int .i64 (countG G).1, .int .i64 (countG G).2.1, .int .i64 (countG G).2.2]) ∧ Below w.heap.size w w' := by
  have HC := Lib.hid (count_tree hr h.nodup)
  have hb1 := fun g => sumK_le x fileOf 16384 (fun j t ht => by unfold fileOf; split <;> omega) g
  have hb2 := fun g => sumK_le x dirsOf 16384 (fun j t ht => by unfold dirsOf; split <;> omega) g
  have hb3 := fun g => sumK_le x byteOf 16384 (fun j t ht => by
    unfold byteOf
    split
    · omega
    · obtain ⟨n, rfl, _⟩ := hr.nat ht
      have := hr.wf.small n
      unfold textG at this
      rw [hr.th n t ht] at this
      exact this) g
  have HB1 := Lib.hid hb1
  have HB2 := Lib.hid hb2
  have HB3 := Lib.hid hb3
  have HRL : Hid (x.rows.length ≤ 1000001) := by have := h.rows_len hr; show _ ≤ _; omega
  have HT := Lib.hid h
  have HX := Lib.hid hr
  have HMD := Lib.hid (made_any h)
  have HML := Lib.hid h.map
  obtain ⟨rl, hrl⟩ : ∃ rl, rl = x.rows.map (fun r => (r.1, some r.2.p)) := ⟨_, rfl⟩
  rw [← hrl] at HML HC
  have HRLN : Hid (rl.length = x.rows.length ∧ ∀ n p, findL rl n = some p → ∃ r, findL x.rows n = some r ∧ p = some r.p) := by
    refine ⟨by rw [hrl, List.length_map], fun n p hp => ?_⟩
    rw [hrl, x.findP] at hp
    obtain ⟨r, h1, h2⟩ := Option.map_eq_some_iff.1 hp
    exact ⟨r, h1, h2.symm⟩
  clear hrl hb1 hb2 hb3 h hr
  go_enter Tryz.func19, Tryz.ntmps19
  go_wp2_with fail
  refine HMD.out.mono ?_
  rintro e w' ⟨rfl, rfl⟩
  have t0 : w'.cell? ⟨x.b, 0, none⟩ = some (.map (some x.m)) := HT.out.box.cell 0 _ rfl
  clear HMD
  go_wp2_with (first
    | (at_range; refine map_range (S := ThS) rfl _ _ rfl rfl rfl HML.out ?_; intro w1 hr1 hb1 hs1)
    | fail)
  go_frame
  obtain ⟨r, hrs⟩ : ∃ r, r = w'.heap.size := ⟨_, rfl⟩
  rw [← hrs] at hr1 ⊢
  have HR := Lib.hid hrs
  have HB := Lib.hid hb1
  clear t0 hs1 hb1 hrs
  go_loopw [5, 6, 7] (fun a b c wr => ∃ (gone : List (Int × Option Nat)) (cnt : Nat), a = .int .i64 (sumK x fileOf gone) ∧ b = .int .i64 (sumK x dirsOf gone) ∧ c = .int .i64 (sumK x byteOf gone) ∧ MapRun ThS wr x.m r rl gone cnt ∧ Hid (gone.length ≤ rl.length) ∧ Hid (Below w'.heap.size w' wr)) (fun _ _ _ wr => wr.rangeLeft x.m r)
  case atStart => exact ⟨[], _, rfl, rfl, rfl, hr1, Nat.zero_le _, HB.out⟩
  case round =>
    rename_i hkl
    obtain ⟨gone, cnt, rfl, rfl, rfl, hrun, HGL, HBW⟩ := hrel
    have HRUN := Lib.hid hrun
    go_wp2_with (first
      | (at_next; refine map_next (S := ThS) rfl _ rfl rfl hrun ?_ ?_)
      | fail)
    · intro hperm
      obtain ⟨c1, c2, c3⟩ := HC.out
      have e1 := (sumK_perm x fileOf hperm).trans c1
      have e2 := (sumK_perm x dirsOf hperm).trans c2
      have e3 := (sumK_perm x byteOf hperm).trans c3
      rw [e1, e2, e3]
      clear e1 e2 e3 c1 c2 c3 hperm hrun
      go_wp2
      go_ret3
      exact ⟨rfl, HBW.out⟩
    · intro n p w2 cnt2 hfind hok hgn hrun2 hlt hc2 hs2 hen
      obtain ⟨q, hq, rfl⟩ := HRLN.out.2 n p hfind
      have HRUN2 := Lib.hid hrun2
      have HLT : Hid (cnt2 < cnt) := hlt
      have HC2 := Lib.hid hc2
      have hta : TrAt w2 x := (HT.out.keep HBW.out).chg hc2 (fun j hj hm => by
        rw [List.mem_singleton.1 hm] at hj
        have h1 := HT.out.lt r hj
        have h2 := HR.out
        omega)
      have hfm := find_of_row hq
      have hra := hta.at_ hq
      have d0 : w2.cell? ⟨q.p, 0, none⟩ = some (.bool q.t.dir) := hra.1.cell 0 _ rfl
      have d2 : w2.cell? ⟨q.p, 2, none⟩ = some (.string q.t.text) := hra.1.cell 2 _ rfl
      have s1 := sumK_snoc x fileOf gone n (some q.p) hfm
      have s2 := sumK_snoc x dirsOf gone n (some q.p) hfm
      have s3 := sumK_snoc x byteOf gone n (some q.p) hfm
      have b1 := HB1.out (gone ++ [(n, some q.p)])
      have b2 := HB2.out (gone ++ [(n, some q.p)])
      have b3 := HB3.out (gone ++ [(n, some q.p)])
      have hgl2 : (gone ++ [(n, some q.p)]).length ≤ rl.length := by
        obtain ⟨D, left, _, _, hp, _⟩ := hrun2
        have h1 := hp.length_eq
        rw [List.length_append] at h1
        omega
      have HGL2 : Hid ((gone ++ [(n, some q.p)]).length ≤ rl.length) := hgl2
      have hrz := HRLN.out.1
      have hrz2 := HRL.out
      have HBW2 : Hid (Below w'.heap.size w' w2) := HBW.out.trans (hc2.below HBW.out.size (fun k hk => by rw [List.mem_singleton.1 hk, HR.out]; exact Nat.le_refl _))
      have hmul : (gone ++ [(n, some q.p)]).length * 16384 ≤ 1000001 * 16384 := Nat.mul_le_mul_right _ (by omega)
      have hvv : ThS.vv (some q.p) = .pointer (some ⟨q.p, 0, none⟩) := rfl
      have hkv : ThS.kv n = .int .i64 n := rfl
      cases hd : q.t.dir with
      | true =>
        rw [hd] at d0
        rw [show fileOf q.t = 0 by unfold fileOf; rw [hd]; rfl] at s1
        rw [show dirsOf q.t = 1 by unfold dirsOf; rw [hd]; rfl] at s2
        rw [show byteOf q.t = 0 by unfold byteOf; rw [hd]; rfl] at s3
        have hw : IntKind.i64.wrap ((sumK x dirsOf gone : Nat) + 1 : Int) = ((sumK x dirsOf gone : Nat) + 1 : Int) := IntWalk.i64_in _ ⟨by omega, by omega⟩
        have HS1 : Hid (sumK x fileOf (gone ++ [(n, some q.p)]) = sumK x fileOf gone) := s1
        have HS2 : Hid (sumK x dirsOf (gone ++ [(n, some q.p)]) = sumK x dirsOf gone + 1) := s2
        have HS3 : Hid (sumK x byteOf (gone ++ [(n, some q.p)]) = sumK x byteOf gone) := s3
        clear s1 s2 s3 b1 b2 b3 hgl2 hrz hrz2 hmul hrun2 hlt hc2 hs2 hfind hok hgn hta hfm hra hq hkl hrun d2
        go_wp2
        go_roundw
        case rel => exact ⟨_, _, by rw [HS1.out], by rw [HS2.out]; rfl, by rw [HS3.out], HRUN2.out, HGL2, HBW2⟩
        case measure => rw [HRUN2.out.left, HRUN.out.left]; exact HLT.out
      | false =>
        rw [hd] at d0
        rw [show fileOf q.t = 1 by unfold fileOf; rw [hd]; rfl] at s1
        rw [show dirsOf q.t = 0 by unfold dirsOf; rw [hd]; rfl] at s2
        rw [show byteOf q.t = q.t.text.size by unfold byteOf; rw [hd]; rfl] at s3
        have hw1 : IntKind.i64.wrap ((sumK x fileOf gone : Nat) + 1 : Int) = ((sumK x fileOf gone : Nat) + 1 : Int) := IntWalk.i64_in _ ⟨by omega, by omega⟩
        have hw2 : IntKind.i64.wrap ((sumK x byteOf gone : Nat) + (q.t.text.size : Nat) : Int) = ((sumK x byteOf gone : Nat) + (q.t.text.size : Nat) : Int) := IntWalk.i64_in _ ⟨by omega, by omega⟩
        have HS1 : Hid (sumK x fileOf (gone ++ [(n, some q.p)]) = sumK x fileOf gone + 1) := s1
        have HS2 : Hid (sumK x dirsOf (gone ++ [(n, some q.p)]) = sumK x dirsOf gone) := s2
        have HS3 : Hid (sumK x byteOf (gone ++ [(n, some q.p)]) = sumK x byteOf gone + q.t.text.size) := s3
        clear s1 s2 s3 b1 b2 b3 hgl2 hrz hrz2 hmul hrun2 hlt hc2 hs2 hfind hok hgn hta hfm hra hq hkl hrun
        go_wp2
        go_roundw
        case rel => exact ⟨_, _, by rw [HS1.out]; rfl, by rw [HS2.out], by rw [HS3.out]; rfl, HRUN2.out, HGL2, HBW2⟩
        case measure => rw [HRUN2.out.left, HRUN.out.left]; exact HLT.out
set_option maxRecDepth 100000 in
theorem count_nil (w : World) : Calls Tryz.prog 19 #[.pointer none] w fun e w' => e = .returned (.tuple #[.int .i64 0, .int .i64 0, .int .i64 0]) ∧ w' = w := by
  go_enter Tryz.func19, Tryz.ntmps19
  go_wp2_with fail
  refine (made_nil _).mono ?_
  rintro e w' ⟨rfl, rfl⟩
  go_wp2
  go_ret3
  exact ⟨rfl, rfl⟩
set_option maxRecDepth 100000 in
theorem copy_nil (w : World) : Calls Tryz.prog 14 #[.pointer none] w fun e w' => e = .returned (.pointer none) ∧ w' = w := by
  go_enter Tryz.func14, Tryz.ntmps14
  go_wp2_with fail
  refine (made_nil _).mono ?_
  rintro e w' ⟨rfl, rfl⟩
  go_wp2
  go_ret
  exact ⟨rfl, rfl⟩
end Go.Proofs.YteimpebfenpifaaGreatDoor

namespace Go.Proofs.YteimpebfenpifaaGreatDoor
open Go Go.RowKit Go.ChangeShapes Go.WideShapes Go.ChangeAt

theorem Rel.perm {M M' : MoD} {G : GD} {k : Nat} (h : Rel M G k) (hp : M.l.Perm M'.l) (hl : M'.last = M.last) : Rel M' G k := by
  have hf : ∀ j, findL M'.l j = findL M.l j := fun j => (findL_perm hp h.mnd j).symm
  exact ⟨h.wf, h.mnd.perm hp, by rw [hl]; exact h.last, fun j t ht => by rw [hl]; exact h.num j t (by rw [← hf]; exact ht), fun n => by rw [hf]; exact h.dom n, fun n t ht => h.th n t (by rw [← hf]; exact ht), fun n t ht => h.nds n t (by rw [← hf]; exact ht),
    fun l n t hl ht => h.ent l n t hl (by rw [← hf]; exact ht), fun n t ht => h.file n t (by rw [← hf]; exact ht), h.bE, h.bT⟩
def pushR (y : TrD) (n : Int) (r : RowD) : TrD := { y with rows := y.rows ++ [(n, r)] }
theorem pushR_blk (y : TrD) (n : Int) (r : RowD) : ∀ k ∈ (pushR y n r).blocks, k ∈ y.blocks ∨ k ∈ r.blk := by
  intro k hk
  unfold TrD.blocks pushR at *
  dsimp only at hk
  rcases List.mem_cons.1 hk with h | hk
  · rw [h]; simp
  · rcases List.mem_cons.1 hk with h | hk
    · rw [h]; simp
    · obtain ⟨q, hq, hk⟩ := List.mem_flatMap.1 hk
      rcases List.mem_append.1 hq with hq | hq
      · exact .inl (List.mem_cons_of_mem _ (List.mem_cons_of_mem _ (List.mem_flatMap.2 ⟨q, hq, hk⟩)))
      · rw [List.mem_singleton.1 hq] at hk; exact .inr hk
theorem TrAt.push {w w' : World} {y : TrD} {n : Int} {r : RowD} (h : TrAt w y) (hnone : findL y.rows n = none) (hc : Chg [y.m] w w')
    (hm : MapAt ThS w' y.m (putL (y.rows.map (fun r => (r.1, some r.2.p))) n (some r.p))) (ha : RowAt w' r) (hs : ∀ k ∈ r.blk, k ∉ y.blocks) (he : ∀ e, r.em = some e → e ≠ r.p) : TrAt w' (pushR y n r) := by
  have hn2 : findL (y.rows.map (fun r => (r.1, some r.2.p))) n = none := by rw [TrD.findP, hnone]; rfl
  rw [putL_new hn2] at hm
  have hrow : ∀ q ∈ y.rows, ∀ k ∈ q.2.blk, k ∈ y.blocks := fun q hq k hk => by
    unfold TrD.blocks
    exact List.mem_cons_of_mem _ (List.mem_cons_of_mem _ (List.mem_flatMap.2 ⟨q, hq, hk⟩))
  refine ⟨h.box.of (hc.block _ h.box.lt (by simpa using h.bm)), ?_, ?_, h.bm, ?_, ?_⟩
  · unfold pushR
    dsimp only
    rw [List.map_append]
    exact hm
  · intro q hq
    unfold pushR at hq
    rcases List.mem_append.1 hq with hq | hq
    · have hs := h.self q hq
      refine (h.row q hq).of (fun k hk => hc.block k ((h.row q hq).lt k hk) ?_)
      intro hm
      rw [List.mem_singleton.1 hm] at hk
      exact hs.2.1 hk
    · rw [List.mem_singleton.1 hq]; exact ha
  · intro q hq
    unfold pushR at hq
    rcases List.mem_append.1 hq with hq | hq
    · exact h.self q hq
    · rw [List.mem_singleton.1 hq]
      exact ⟨fun hk => hs _ hk (by simp [TrD.blocks, pushR]), fun hk => hs _ hk (by simp [TrD.blocks, pushR]), he⟩
  · intro q hq q' hq' hne k hk hk'
    unfold pushR at hq hq'
    rcases List.mem_append.1 hq with hq | hq
    · rcases List.mem_append.1 hq' with hq' | hq'
      · exact h.disj q hq q' hq' hne k hk hk'
      · rw [List.mem_singleton.1 hq'] at hk'
        exact hs k hk' (hrow q hq k hk)
    · rcases List.mem_append.1 hq' with hq' | hq'
      · rw [List.mem_singleton.1 hq] at hk
        exact hs k hk (hrow q' hq' k hk')
      · rw [List.mem_singleton.1 hq, List.mem_singleton.1 hq'] at hne
        exact hne rfl
def thOf (x : TrD) (n : Int) : ThD := (findL x.M.l n).getD ⟨true, [], noB, 0⟩
/-- What the copy has so far: block b, map m; of x the things that were handed out. -/
structure CpI (x : TrD) (B b m r : Nat) (gone : List (Int × Option Nat)) (y : TrD) (W : World) : Prop where
  yb : y.b = b
  ym : y.m = m
  yl : y.last = x.last
  at_ : TrAt W y
  l : y.M.l = gone.map (fun z => (z.1, thOf x z.1))
  lo : ∀ j ∈ y.blocks, B ≤ j ∧ j ≠ r
theorem CpI.gone_ {x : TrD} {B b m r : Nat} {gone : List (Int × Option Nat)} {y : TrD} {W : World} (h : CpI x B b m r gone y W) {n : Int} (hn : findL gone n = none) : findL y.rows n = none := by
  have : findL y.M.l n = none := by
    rw [h.l, findL_map (fun (z : Int) (_ : Option Nat) => thOf x z), hn]; rfl
  rw [y.find] at this
  exact Option.map_eq_none_iff.1 this
theorem CpI.len {x : TrD} {B b m r : Nat} {gone : List (Int × Option Nat)} {y : TrD} {W : World} (h : CpI x B b m r gone y W) : y.rows.length = gone.length := by
  have := congrArg List.length h.l
  unfold TrD.M at this
  simpa using this
theorem CpI.end_ {x : TrD} {G : GD} {k : Nat} {B b m r : Nat} {gone : List (Int × Option Nat)} {y : TrD} {W : World} (h : CpI x B b m r gone y W) (hr : Rel x.M G k) (hnd : NoDupL x.rows) (hp : gone.Perm (x.rows.map (fun r => (r.1, some r.2.p)))) : Rel y.M G k := by
  refine hr.perm ?_ h.yl
  rw [h.l]
  refine List.Perm.trans ?_ (hp.symm.map _)
  rw [List.map_map]
  unfold TrD.M
  dsimp only
  refine List.Perm.of_eq (List.map_congr_left (fun q hq => ?_))
  show (q.1, q.2.t) = (q.1, thOf x q.1)
  unfold thOf
  rw [x.find, findL_of_mem hnd hq]
  rfl
end Go.Proofs.YteimpebfenpifaaGreatDoor
