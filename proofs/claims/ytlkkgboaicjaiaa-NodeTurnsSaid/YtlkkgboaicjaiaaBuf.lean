/-
  A slice of bytes that the call itself made: what it holds, told by a list of bytes; and its text.
-/
import Derived.Test.YtlkkgboaicjaiaaRows
import Derived.Test.YtlkkgboaicjaiaaPlain
import Derived.Deep.RegionLaw
namespace Go.Proofs.Ytlkkgboaicjaiaa
open Go.RowKit

set_option maxRecDepth 100000 in
theorem infoU8 : (Try.prog.info? 5).map (fun i => (i.zero, i.size, i.bytes)) = some (some (.int .u8 0), 1, 1) := by kernel_rfl

def byV (c : UInt8) : Value := .int .u8 (c.toNat : Int)

/-- The value v is a slice of the call's own that holds the bytes l. -/
def Buf (w : World) (base : Nat) (v : Value) (l : List UInt8) : Prop := w.ownsRow base 5 1 v l.length (l.map byV)

set_option maxRecDepth 100000 in
theorem Buf.nil (w : World) (base : Nat) : Buf w base (.slice none 0 0) [] := World.ownsRow_nil _ _ _ _

set_option maxRecDepth 100000 in
theorem strOfNums_bytes (l : List UInt8) : strOfNums (l.map fun c => (c.toNat : Int)) = ⟨l.toArray⟩ := by
  unfold strOfNums
  congr 1
  rw [List.map_map]
  have : (fun n : Int => UInt8.ofNat n.toNat) ∘ (fun c : UInt8 => (c.toNat : Int)) = id := by
    funext c; simp
  rw [this, List.map_id]

set_option maxRecDepth 100000 in
theorem getD_bytes (l : List UInt8) (i : Nat) (h : i < l.length) : (l.map byV)[i]? = some (.int .u8 ((l.map fun c => (c.toNat : Int)).getD i 0)) := by
  simp [byV, List.getD, List.getElem?_eq_getElem h]

set_option maxRecDepth 100000 in
/-- 'string(b)'. -/
theorem Buf.text {w : World} {base : Nat} {v : Value} {l : List UInt8} (h : Buf w base v l) :
    (convert 61 9 v).run Try.prog w = .ok (.string ⟨l.toArray⟩) w := by
  have h' := h
  rcases h.2 with ⟨rfl, h0⟩ | ⟨g, cap, cur, rfl, _⟩
  · have : l = [] := List.eq_nil_of_length_eq_zero h0
    subst this
    exact run_convert_bytes_nil w _ _ Try.underlying61 Try.underlying5 _ _ _ Try.underlying9
  · have := run_convert_bytes_arg (P := Try.prog) w _ _ Try.underlying61 Try.underlying5 g 0 l.length cap (l.map fun c => (c.toNat : Int)) (by simp) (fun i hi => by
      rw [Nat.zero_add, World.ownsRow.cellAt h i (by omega)]; exact getD_bytes l i hi) _ Try.underlying9
    rw [strOfNums_bytes] at this
    exact this

set_option maxRecDepth 100000 in
theorem Buf.own_block {w : World} {base : Nat} {v : Value} {l : List UInt8} (h : Buf w base v l) : ∀ k, v.ownBlock = some k → base ≤ k := by
  intro k hk
  rcases h.2 with ⟨rfl, _⟩ | ⟨g, cap, cur, rfl, hg, _⟩
  · cases hk
  · simp [Value.ownBlock] at hk; omega

set_option maxRecDepth 100000 in
/-- 'append(out, c ..)' on such a slice. -/
theorem wp_buf_push {ops : Array Oper} {rest : List Oper} {o : Oper} {a : Act} {Q : Exit → Act → World → Prop} (W : World) (hgd : o.guard = none) (s x : Operand)
    (ho : o.op = .call { callee := .builtin .append, args := #[s, x], argTypes := #[61, 61] })
    (base : Nat) (v : Value) (l : List UInt8) (hs : a.eval s = v) (hb : Buf W base v l)
    (ad : Addr) (m c : Nat) (cs : List UInt8) (hx : a.eval x = .slice (some ad) m c) (hm : cs.length = m) (hcell : ∀ j u, cs[j]? = some u → W.cell? (ad.add j) = some (byV u))
    (hbytes : l.length + m ≤ 140737488355328) (hbase : base ≤ W.heap.size)
    (h : ∀ v' w', Buf w' base v' (l ++ cs) → Below base W w' → wpList Try.prog ops Q rest (a.put o.dst v') w') : wpList Try.prog ops Q (o :: rest) a W := by
  obtain ⟨i0, hi, hz0, hz1, hz2⟩ := info_parts infoU8
  subst hm
  refine wpList_append_own W hgd s x 61 ho base 5 i0 (.int .u8 0) 1 1 Try.underlying61 hi hz0 hz1 hz2 rfl (by decide) v l.length _ hs hb ad cs.length c (cs.map byV) hx (by simp) ?_ ?_ (by unfold maxLen; omega) (by omega) hbase ?_
  · intro j u hu
    rw [List.getElem?_map] at hu
    obtain ⟨y, hy, rfl⟩ := Option.map_eq_some_iff.1 hu
    exact hcell j y hy
  · intro u hu
    obtain ⟨y, _, rfl⟩ := List.mem_map.1 hu
    rfl
  · intro v' w' h1 h2 _
    refine h v' w' ?_ ((Below.refl base W).grown h2 hbase hb.own_block)
    unfold Buf
    rw [List.map_append, List.length_append]
    exact h1

set_option maxRecDepth 100000 in
theorem Buf.alloc {w : World} {base : Nat} {v : Value} {l : List UInt8} (h : Buf w base v l) (o : Obj) : Buf (w.alloc o) base v l := World.ownsRow.alloc h o
set_option maxRecDepth 100000 in
theorem Buf.base_size {w : World} {base : Nat} {W : World} (h : Below base W w) (hb : base ≤ W.heap.size) : base ≤ w.heap.size := Nat.le_trans hb h.size

set_option maxRecDepth 100000 in
/-- The same at a step of a region that draws its order. -/
theorem step_buf_push {ops : Array Oper} {o : Oper} {a : Act} {W : World} {K : Act → World → Prop} {Q : Exit → Act → World → Prop} {E : Prop} (hgd : o.guard = none) (s x : Operand)
    (ho : o.op = .call { callee := .builtin .append, args := #[s, x], argTypes := #[61, 61] })
    (base : Nat) (v : Value) (l : List UInt8) (hs : a.eval s = v) (hb : Buf W base v l)
    (ad : Addr) (m c : Nat) (cs : List UInt8) (hx : a.eval x = .slice (some ad) m c) (hm : cs.length = m) (hcell : ∀ j u, cs[j]? = some u → W.cell? (ad.add j) = some (byV u))
    (hbytes : l.length + m ≤ 140737488355328) (hbase : base ≤ W.heap.size)
    (h : ∀ v' w', Buf w' base v' (l ++ cs) → Below base W w' → K (a.put o.dst v') w') :
    if Region.wanted o (yielded ops a.tmps) = true then Oper.wp Try.prog o a W K Q else E := by
  have hw : Region.wanted o (yielded ops a.tmps) = true := by simp [Region.wanted, hgd]
  rw [if_pos hw]
  obtain ⟨i0, hi, hz0, hz1, hz2⟩ := info_parts infoU8
  subst hm
  refine wp_append_own W s x 61 ho base 5 i0 (.int .u8 0) 1 1 Try.underlying61 hi hz0 hz1 hz2 rfl (by decide) v l.length _ hs hb ad cs.length c (cs.map byV) hx (by simp) ?_ ?_ (by unfold maxLen; omega) (by omega) hbase ?_
  · intro j u hu
    rw [List.getElem?_map] at hu
    obtain ⟨y, hy, rfl⟩ := Option.map_eq_some_iff.1 hu
    exact hcell j y hy
  · intro u hu
    obtain ⟨y, _, rfl⟩ := List.mem_map.1 hu
    rfl
  · intro v' w' h1 h2 _
    refine h v' w' ?_ ((Below.refl base W).grown h2 hbase hb.own_block)
    unfold Buf
    rw [List.map_append, List.length_append]
    exact h1

set_option maxRecDepth 100000 in
/-- 'make([]byte, 0, n)'. -/
theorem wp_buf_make {ops : Array Oper} {rest : List Oper} {o : Oper} {a : Act} {Q : Exit → Act → World → Prop} (W : World) (hgd : o.guard = none) (l c : Operand)
    (ho : o.op = Op.makeSlice 61 l c) (base : Nat) (kl kc : IntKind) (C : Int) (n : Nat) (hl : a.eval l = .int kl 0) (hc : a.eval c = .int kc C) (hC : C = (n : Int))
    (hn : n ≤ 281474976710656) (hbase : base ≤ W.heap.size)
    (h : ∀ v' w', Buf w' base v' [] → Below base W w' → wpList Try.prog ops Q rest (a.put o.dst v') w') : wpList Try.prog ops Q (o :: rest) a W := by
  obtain ⟨i0, hi, hz0, hz1, hz2⟩ := info_parts infoU8
  refine wpList_make_own W hgd l c 61 ho base 5 i0 (.int .u8 0) 1 Try.underlying61 hi hz0 hz1 kl kc C n hl hc hC (by rw [hz2]; omega) (by unfold maxLen; omega) hbase ?_
  intro w' h1 h2
  refine h _ w' ?_ ((Below.refl base W).grown h2 hbase (fun k hk => by cases hk))
  rcases h1.2 with ⟨h', _⟩ | ⟨g, cap, cur, e, hg, hh, h3, h4, h5, h6⟩
  · simp at h'
  · exact ⟨rfl, .inr ⟨g, cap, cur, e, hg, hh, h3, h4, h5, h6⟩⟩

/-- A slice's length, for a loop's measure. -/
def lenOf : Value → Nat
  | .slice _ n _ => n
  | _ => 0
set_option maxRecDepth 100000 in
theorem Buf.len {w : World} {base : Nat} {v : Value} {l : List UInt8} (h : Buf w base v l) : lenOf v = l.length := by
  rcases h.2 with ⟨rfl, h0⟩ | ⟨g, cap, cur, rfl, _⟩
  · exact h0.symm
  · rfl
set_option maxRecDepth 100000 in
theorem Buf.shape {w : World} {base : Nat} {v : Value} {l : List UInt8} (h : Buf w base v l) : ∃ a cap, v = .slice a l.length cap := by
  rcases h.2 with ⟨rfl, h0⟩ | ⟨g, cap, cur, rfl, _⟩
  · exact ⟨none, 0, by rw [h0]⟩
  · exact ⟨_, cap, rfl⟩
end Go.Proofs.Ytlkkgboaicjaiaa
