/-
  'slices.Sorted(maps.Keys(m))' of a map of names: the names, rising; 'maps.Clone(m)' of one.
-/
import Derived.Test.YteimpebfenpifaaGreatDoorMoS
import Derived.Shelf.SlGeneric
import Derived.Shelf.SlLaysZ
import Derived.Shelf.SlLaysW
import Derived.Shelf.SlIter.Sorted
import Derived.Shelf.SlMaps.Clone
namespace Go.Proofs
open Go.Shelf
def Tryz.keysM_ren : Go.Shelf.Ren := ⟨fun | 7 => 80 | 10 => 96 | n => n, fun | 23 => 65 | 26 => 9 | 3 => 3 | 28 => 81 | 0 => 0 | 27 => 80 | 33 => 77 | 4 => 4 | n => n, fun | n => n⟩
theorem Tryz.keysM : Go.Proofs.SlLaysZ.n7 Tryz.prog Tryz.keysM_ren := {
  mixed := by kernel_rfl
  f7 := ⟨Tryz.f80.name, by decide, Tryz.func80.trans (congrArg some (by kernel_rfl))⟩
  f10 := ⟨Tryz.f96.name, by decide, Tryz.func96.trans (congrArg some (by kernel_rfl))⟩
  t0 := Tryz.underlying0
  a0 := Tryz.isAgg0
  z0 := Tryz.sizeOf0
  v0 := Tryz.zeroValue0
  t4 := Tryz.underlying4
  a4 := Tryz.isAgg4
  z4 := Tryz.sizeOf4
  v4 := Tryz.zeroValue4
  t23 := Tryz.underlying65
  a23 := Tryz.isAgg65
  z23 := Tryz.sizeOf65
  v23 := Tryz.zeroValue65
  t26 := Tryz.underlying9
  a26 := Tryz.isAgg9
  z26 := Tryz.sizeOf9
  v26 := Tryz.zeroValue9
  t27 := Tryz.underlying80
  a27 := Tryz.isAgg80
  z27 := Tryz.sizeOf80
  v27 := Tryz.zeroValue80
  t28 := Tryz.underlying81
  a28 := Tryz.isAgg81
  z28 := Tryz.sizeOf81
  v28 := Tryz.zeroValue81
  t33 := Tryz.underlying77
  a33 := Tryz.isAgg77
  z33 := Tryz.sizeOf77
  v33 := Tryz.zeroValue77
}
def Tryz.sortM_ren : Go.Shelf.Ren := ⟨fun | 6 => 79 | 8 => 94 | 9 => 95 | 11 => 106 | n => n, fun | 26 => 9 | 28 => 81 | 24 => 31 | 0 => 0 | 3 => 3 | 4 => 4 | 33 => 77 | n => n, fun | n => n⟩
theorem Tryz.sortM : Go.Proofs.SlLaysZ.n6 Tryz.prog Tryz.sortM_ren := {
  mixed := by kernel_rfl
  f6 := ⟨Tryz.f79.name, by decide, Tryz.func79.trans (congrArg some (by kernel_rfl))⟩
  f8 := ⟨Tryz.f94.name, by decide, Tryz.func94.trans (congrArg some (by kernel_rfl))⟩
  f11 := ⟨Tryz.f106.name, by decide, Tryz.func106.trans (congrArg some (by kernel_rfl))⟩
  t0 := Tryz.underlying0
  a0 := Tryz.isAgg0
  z0 := Tryz.sizeOf0
  v0 := Tryz.zeroValue0
  t24 := Tryz.underlying31
  a24 := Tryz.isAgg31
  z24 := Tryz.sizeOf31
  v24 := Tryz.zeroValue31
  t26 := Tryz.underlying9
  a26 := Tryz.isAgg9
  z26 := Tryz.sizeOf9
  v26 := Tryz.zeroValue9
  t28 := Tryz.underlying81
  a28 := Tryz.isAgg81
  z28 := Tryz.sizeOf81
  v28 := Tryz.zeroValue81
  i26 := by kernel_rfl }
def Tryz.cloneM_ren : Go.Shelf.Ren := ⟨fun | 5 => 28 | 7 => 43 | n => n, fun | 4 => 4 | 20 => 20 | 23 => 65 | 25 => 9 | 3 => 3 | n => n, fun | n => n⟩
theorem Tryz.cloneM : Go.Proofs.SlLaysW.n5 Tryz.prog Tryz.cloneM_ren := {
  mixed := by kernel_rfl
  f5 := ⟨Tryz.f28.name, by decide, Tryz.func28.trans (congrArg some (by kernel_rfl))⟩
  f7 := Tryz.func43.trans (congrArg some (by kernel_rfl))
  t4 := Tryz.underlying4
  a4 := Tryz.isAgg4
  z4 := Tryz.sizeOf4
  v4 := Tryz.zeroValue4
  t20 := Tryz.underlying20
  a20 := Tryz.isAgg20
  z20 := Tryz.sizeOf20
  v20 := Tryz.zeroValue20
  t23 := Tryz.underlying65
  a23 := Tryz.isAgg65
  z23 := Tryz.sizeOf65
  v23 := Tryz.zeroValue65
}
end Go.Proofs
namespace Go.Proofs.YteimpebfenpifaaGreatDoor
open Go.RowKit Go.Maps Go.Sort Go.Shelf Go.Lib

theorem sortsM (m : Nat) : AnyZ.SortsIn Tryz.prog Tryz.sortM_ren Fence.wide m :=
  ⟨fun blk off cap ss W hH hblk hsz => callsIn_wide.2 (Tryz.slices_Sort_string blk off cap ss W hH hblk hsz),
   fun p cap W => callsIn_wide.2 (Tryz.slices_Sort_string_none p cap W)⟩
theorem names_perm {w : World} {m n : Nat} {D : DataW Unit} {e : List (ByteArray × Int)} (hown : w.ownsMap Tryz.prog 9 EnS.rd m n D) (h : MapIs EnS D e) : (e.map (fun x => pb x.1)).Perm (strKeys D) := by
  refine Collected.perm (left := fun _ => false) ⟨?_, fun x => ?_⟩ hown EnS.keyed Tryz.underlying9 (fun _ => rfl)
  · unfold List.Nodup
    rw [List.pairwise_map]
    refine List.Pairwise.imp ?_ h.nodup
    intro a b hab q
    exact hab (pb_ext q)
  · have h1 := h.has ⟨x.toArray⟩
    have h2 : EnS.kl ⟨x.toArray⟩ = .string x := by show enkl _ = _; unfold enkl; simp
    rw [h2] at h1
    rw [h1]
    constructor
    · intro hx
      obtain ⟨y, hy, rfl⟩ := List.mem_map.1 hx
      have : (⟨(pb y.1).toArray⟩ : ByteArray) = y.1 := pb_ext (pb_mk _)
      rw [this, findL_of_mem h.nodup hy]
      exact ⟨rfl, rfl⟩
    · rintro ⟨hx, _⟩
      cases q : findL e ⟨x.toArray⟩ with
      | none => rw [q] at hx; cases hx
      | some v => exact List.mem_map.2 ⟨_, findL_mem q, pb_mk x⟩
theorem insB_perm (x : ByteArray) : ∀ l, (insB x l).Perm (x :: l)
  | [] => List.Perm.refl _
  | y :: r => by
    unfold insB
    split
    · exact List.Perm.refl _
    · exact (List.Perm.cons y (insB_perm x r)).trans (List.Perm.swap x y r)
theorem sortB_perm : ∀ l, (sortB l).Perm l
  | [] => List.Perm.refl _
  | x :: r => (insB_perm x _).trans (List.Perm.cons x (sortB_perm r))
theorem insB_sorted (x : ByteArray) : ∀ {l : List ByteArray}, l.Pairwise (fun a b => a.data.toList ≤ b.data.toList) → (insB x l).Pairwise (fun a b => a.data.toList ≤ b.data.toList)
  | [], _ => by simp [insB]
  | y :: r, h => by
    unfold insB
    have hc := List.pairwise_cons.1 h
    by_cases e : x.data.toList < y.data.toList
    · rw [if_pos e]
      refine List.pairwise_cons.2 ⟨fun z hz => ?_, h⟩
      rcases List.mem_cons.1 hz with q | q
      · rw [q]; exact List.le_of_lt e
      · exact List.le_trans (List.le_of_lt e) (hc.1 z q)
    · rw [if_neg e]
      refine List.pairwise_cons.2 ⟨fun z hz => ?_, insB_sorted x hc.2⟩
      rcases List.mem_cons.1 ((insB_perm x r).subset hz) with q | q
      · rw [q]; exact List.not_lt.1 e
      · exact hc.1 z q
theorem sortB_sorted : ∀ l, (sortB l).Pairwise (fun a b => a.data.toList ≤ b.data.toList)
  | [] => List.Pairwise.nil
  | x :: r => insB_sorted x (sortB_sorted r)
theorem sorted_unique {l : List ByteArray} {ss : List (List UInt8)} (h : ss.Perm (l.map pb)) : ss.mergeSort (fun x y => decide (x ≤ y)) = (sortB l).map pb := by
  have tr : ∀ a b c : List UInt8, decide (a ≤ b) = true → decide (b ≤ c) = true → decide (a ≤ c) = true := fun a b c h1 h2 => by simp only [decide_eq_true_eq] at *; exact List.le_trans h1 h2
  have tot : ∀ a b : List UInt8, (decide (a ≤ b) || decide (b ≤ a)) = true := fun a b => by simp only [Bool.or_eq_true, decide_eq_true_eq]; exact List.le_total a b
  refine List.Perm.eq_of_pairwise (le := fun a b => a ≤ b) (fun a b _ _ h1 h2 => List.le_antisymm h1 h2) ?_ ?_ ?_
  · exact (List.pairwise_mergeSort tr tot ss).imp (fun h => by simpa using h)
  · rw [List.pairwise_map]
    exact sortB_sorted l
  · exact ((List.mergeSort_perm ss _).trans h).trans ((sortB_perm l).symm.map pb)

set_option maxHeartbeats 1000000 in
theorem names_sorted (w : World) (m : Nat) (e : List (ByteArray × Int)) (hM : MapAt EnS w m e) (hlen : e.length ≤ 2000000) :
    Calls Tryz.prog 80 #[.map (some m)] w fun r w' => ∃ f, r = .returned f ∧ Below w.heap.size w w' ∧
      Calls Tryz.prog 79 #[f] w' fun r2 w2 => ∃ v, r2 = .returned v ∧ Ks w2 w'.heap.size v (sortB (e.map (·.1))) ∧ Below w'.heap.size w' w2 := by
  obtain ⟨D, hown, hDI⟩ := hM
  have hsize : Maps.size D = e.length := hDI.size
  have hbl := hown.lt
  have cK : CallsIn Fence.wide 5 Tryz.prog 80 #[.map (some m)] w fun r w' => r = .returned (.func (.func 96) #[] #[.pointer (some ⟨w.heap.size, 0, none⟩)]) ∧ w' = w.alloc (.cells #[.map (some m)] 65) := AnyZ.keys_in Tryz.keysM Fence.wide 5 trivial rfl (some m) w
  refine ((callsIn_wide (n := 5)).1 cK).mono ?_
  rintro r w1 ⟨rfl, rfl⟩
  refine ⟨_, rfl, (Below.refl _ w).alloc (Nat.le_refl _) _, ?_⟩
  have hseq : SeqGives Fence.wide 2 Tryz.prog 96 #[.pointer (some ⟨w.heap.size, 0, none⟩)] encStr (fun ss => ss.Perm (strKeys D)) (Maps.size D) (w.alloc (.cells #[.map (some m)] 65)) :=
    AnyZ.keys_gives (ρ := Tryz.keysM_ren) { Tryz.keysM with } Fence.wide _ trivial rfl (by omega) w.heap.size m _ D _ (by simp) (by simp) (by
      obtain ⟨es, clock, hb, Ft, hs, hD⟩ := hown
      exact ⟨es, clock, (Below.heap_alloc _ _ m hbl).trans hb, Ft, hs, hD⟩)
  have cS := AnyZ.sorted_in Tryz.sortM Fence.wide 5 trivial trivial trivial trivial rfl (by omega) (sortsM _) (enters_of Tryz.func95 (by kernel_rfl) rfl) 96 #[.pointer (some ⟨w.heap.size, 0, none⟩)] trivial (enters_of Tryz.func96 (by kernel_rfl) rfl) _ _ (by rw [hsize]; unfold maxLen; omega) (by rw [hsize]; omega) _ hseq
  change CallsIn _ _ Tryz.prog 79 _ _ _ at cS
  refine ((callsIn_wide (n := 5)).1 cS).mono ?_
  rintro r w2 ⟨v, ss, rfl, hS, hrow, _, hb⟩
  refine ⟨v, rfl, ?_, hb⟩
  have hp : ss.Perm ((e.map (·.1)).map pb) := by
    have := hS.trans (names_perm hown hDI).symm
    rw [List.map_map]
    exact this
  rw [sorted_unique hp] at hrow
  unfold Ks
  have hl : ss.length = (sortB (e.map (·.1))).length := by
    rw [hp.length_eq, List.length_map, (sortB_perm _).length_eq]
  rw [hl] at hrow
  have hm : ((sortB (e.map (·.1))).map pb).map encStr = (sortB (e.map (·.1))).map Value.string := by
    rw [List.map_map]
    refine List.map_congr_left (fun x _ => ?_)
    show encStr (pb x) = _
    unfold encStr
    exact congrArg Value.string (pb_ext (pb_mk _))
  rw [hm] at hrow
  exact hrow
theorem clone_some (w : World) (m : Nat) (e : List (ByteArray × Int)) (hM : MapAt EnS w m e) :
    Calls Tryz.prog 28 #[.map (some m)] w fun r w' => r = .returned (.map (some w.heap.size)) ∧ MapAt EnS w' w.heap.size e ∧ Below w.heap.size w w' := by
  obtain ⟨D, hown, hDI⟩ := hM
  refine (AnyW.maps_Clone_owns Tryz.cloneM 9 EnS.rd m e.length D w hown).mono ?_
  rintro r w' ⟨rfl, h1, _, h3⟩
  exact ⟨rfl, ⟨D, h1, hDI⟩, h3⟩
theorem clone_none (w : World) : Calls Tryz.prog 28 #[.map none] w fun r w' => r = .returned (.map none) ∧ w' = w := AnyW.maps_Clone_nil Tryz.cloneM w
end Go.Proofs.YteimpebfenpifaaGreatDoor
