/-
  The halves of a node: one behind the other they are the node, and they may be if the node is at most one entry too large.
-/
import Derived.Test.YtlkkgboaicjaiaaNodeWk
import Derived.Test.YtlkkgboaicjaiaaKeysRows
namespace Go.Proofs.Ytlkkgboaicjaiaa
open Go.RowKit Go.ChangeShapes Go.WideShapes Go.ChangeAt

theorem Ks.under {n : Nat} {w w' : World} {base : Nat} {v : Value} {l : List ByteArray} (h : Ks w base v l) (hb : Below n w w') (hn : ∀ k, v.ownBlock = some k → k < n) : Ks w' base v l := ownsRow_of h fun k hk _ => hb.block k (hn k hk)
theorem ks_sl2 {w : World} {base : Nat} {a : Option Addr} {c : Nat} {l : List ByteArray} (h : Ks w base (.slice a l.length c) l) : Sl w Value.string a l := by
  obtain ⟨a', c', e, s⟩ := h.view
  injection e with e1
  rw [e1]; exact s
theorem may_part {d : NodeD} (hm : mayD d = true) (c : Nat) : mayD ⟨d.leaf, d.keys.take c, d.vals.take c⟩ = true ∧ mayD ⟨d.leaf, d.keys.drop c, d.vals.drop c⟩ = true := by
  obtain ⟨E, e, ho, hl⟩ := may_of hm
  have e2 : d.keys = E.map (·.1) := by rw [e]; rfl
  have e3 : d.vals = E.map (·.2) := by rw [e]; rfl
  rw [e2, e3, ← List.map_take, ← List.map_take, ← List.map_drop, ← List.map_drop]
  exact ⟨(may_iff d.leaf (E.take c)).2 ⟨ho.part (List.take_sublist _ _), by rw [List.length_take]; omega⟩, (may_iff d.leaf (E.drop c)).2 ⟨ho.part (List.drop_sublist _ _), by rw [List.length_drop]; omega⟩⟩
theorem halves {d : NodeD} (hm : mayD d = true) (h2 : 2 ≤ d.keys.length) : ∃ P Q R S, splitD d = (⟨d.leaf, P, R⟩, ⟨d.leaf, Q, S⟩, true) ∧ P ++ Q = d.keys ∧ R ++ S = d.vals ∧ P.length ≠ 0 ∧ Q.length ≠ 0 ∧ (sizeD d ≤ 1383 → chkN ⟨d.leaf, P, R⟩ = 0 ∧ chkN ⟨d.leaf, Q, S⟩ = 0) := by
  have hc := cut_in h2
  obtain ⟨c, hcc⟩ : ∃ c, c = cutD d := ⟨_, rfl⟩
  refine ⟨d.keys.take c, d.keys.drop c, d.vals.take c, d.vals.drop c, by unfold splitD; rw [if_pos ⟨hm, h2⟩, hcc], List.take_append_drop _ _, List.take_append_drop _ _, by rw [List.length_take]; omega, by rw [List.length_drop]; omega, fun hs => ?_⟩
  have hp := may_part hm c
  obtain ⟨E, e, ho, hl⟩ := may_of hm
  have e2 : d.keys = E.map (·.1) := by rw [e]; rfl
  have e3 : d.vals = E.map (·.2) := by rw [e]; rfl
  have hsz : 2 + szL d.keys d.vals ≤ 1383 := by unfold sizeD at hs; rw [if_pos hm] at hs; exact hs
  obtain ⟨j, j1, j2, j3, j4⟩ := half_small d.keys d.vals h2 (by rw [e2, e3]; simp) (fun i h1 h2 => by
    have hi : i < E.length := by rw [e2, List.length_map] at h1; exact h1
    have := ho.ok E[i] (List.getElem_mem hi)
    rw [okE, decide_eq_true_eq] at this
    have k1 : d.keys[i] = (E[i]).1 := by simp only [e2, List.getElem_map]
    have k2 : d.vals[i] = (E[i]).2 := by simp only [e3, List.getElem_map]
    rw [k1, k2]; omega) hsz
  have hsp := mid_spec d (d.keys.length - 1) (by omega)
  have hg := hsp.2.2.2 j j1 (by omega)
  rw [hsp.2.2.1] at hg
  have hce : (midS d (d.keys.length - 1)).1 = c := by rw [hcc]; rfl
  rw [hce] at hg
  unfold grD at hg
  have h1 : sizeD ⟨d.leaf, d.keys.take c, d.vals.take c⟩ ≤ 960 := by unfold sizeD; rw [if_pos hp.1]; show 2 + szL (d.keys.take c) (d.vals.take c) ≤ 960; omega
  have h3 : sizeD ⟨d.leaf, d.keys.drop c, d.vals.drop c⟩ ≤ 960 := by unfold sizeD; rw [if_pos hp.2]; show 2 + szL (d.keys.drop c) (d.vals.drop c) ≤ 960; omega
  constructor
  · unfold chkN; rw [if_pos hp.1, if_neg (by omega)]
  · unfold chkN; rw [if_pos hp.2, if_neg (by omega)]
theorem no_halves {d : NodeD} (h : ¬ (mayD d = true ∧ 2 ≤ d.keys.length)) : splitD d = (⟨false, [], []⟩, ⟨false, [], []⟩, false) := by
  unfold splitD; rw [if_neg h]
end Go.Proofs.Ytlkkgboaicjaiaa
