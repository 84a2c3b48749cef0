/-
  Texts put together: PathV, Buf, Builder.
-/
import Derived.Test.YteimpebfenpifaaGreatDoorMg9
import Derived.Test.YteimpebfenpifaaGreatDoorRows
import Derived.Test.YteimpebfenpifaaGreatDoorMg2
import Derived.Deep.RegionLaw
import Derived.Test.YteimpebfenpifaaGreatDoorMg0
import Derived.Shelf.Strings.Builder1
namespace Go.Proofs.YteimpebfenpifaaGreatDoor
open Go Go.RowKit

/-- A name: it may be, and holds no '/'. -/
def nameD (x : ByteArray) : Prop := okN x ∧ ∀ c ∈ pb x, c ≠ 47

theorem names_ok {s : ByteArray} (h : (splitD s).2 = 0) : ∀ x ∈ (splitD s).1, nameD x := by
  by_cases hp : (pb s).head? = some 47
  · by_cases hz : (restP s).size = 0
    · rw [split_root hp hz]; intro x hx; cases hx
    · by_cases hk : ∀ x ∈ piecesB (restP s), okN x
      · rw [split_ok hp hz hk]
        intro x hx
        refine ⟨hk x hx, ?_⟩
        unfold piecesB at hx
        obtain ⟨p, hp1, rfl⟩ := List.mem_map.1 hx
        have := pieces_clean _ p hp1
        unfold mkB
        rw [pb_mk]
        exact this
      · have hb : ∃ x ∈ piecesB (restP s), ¬ okN x := by
          apply Classical.byContradiction
          intro e
          exact hk fun x hx => Classical.byContradiction fun hn => e ⟨x, hx, hn⟩
        rw [split_bad hp hz hb] at h
        cases h
  · rw [split_none hp] at h
    cases h

theorem split_join {l : List ByteArray} (h : ∀ x ∈ l, nameD x) : splitD (joinD l) = (l, 0) := by
  by_cases h0 : l = []
  · subst h0; decide +kernel
  · have e := pb_joinD l
    have hp : (pb (joinD l)).head? = some 47 := by rw [e]; rfl
    have e2 : pb (restP (joinD l)) = ([47] : List UInt8).intercalate (l.map pb) := by
      have := pb_head hp
      rw [e] at this
      exact (List.cons.inj this).2.symm
    have hm : l.map pb ≠ [] := by simpa using h0
    have hpi : pieces (pb (restP (joinD l))) = l.map pb := by
      rw [e2]
      refine pieces_of_join _ hm ?_
      intro p hp2 x hx
      obtain ⟨y, hy, rfl⟩ := List.mem_map.1 hp2
      exact (h y hy).2 x hx
    have hB : piecesB (restP (joinD l)) = l := by
      unfold piecesB
      rw [hpi, List.map_map]
      have : mkB ∘ pb = id := by funext x; exact mkB_pb x
      rw [this, List.map_id]
    have hz : ¬ (restP (joinD l)).size = 0 := by
      intro hz
      have hn : pb (restP (joinD l)) = [] := List.eq_nil_of_length_eq_zero (by rw [pb_size]; exact hz)
      rw [hn] at hpi
      have hpi : [[]] = l.map pb := hpi
      cases l with
      | nil => exact h0 rfl
      | cons x r =>
        rw [List.map_cons] at hpi
        have hx : pb x = [] := (List.cons.inj hpi).1.symm
        have := (h x (by simp)).1.1
        rw [← pb_size, hx] at this
        exact absurd this (by decide)
    rw [split_ok hp hz (by rw [hB]; exact fun x hx => (h x hx).1), hB]

theorem one_name {x : ByteArray} (h : (splitD ((⟨#[47]⟩ : ByteArray) ++ x)).2 = 0) (h1 : (splitD ((⟨#[47]⟩ : ByteArray) ++ x)).1.length = 1) : nameD x := by
  have hj := join_split h
  have hn := names_ok h
  generalize (splitD ((⟨#[47]⟩ : ByteArray) ++ x)).1 = l at *
  match l, h1 with
  | [y], _ =>
    have e := congrArg pb hj
    rw [pb_joinD, pb_append] at e
    have e2 : 47 :: pb y = 47 :: pb x := by simpa [List.intercalate, pb] using e
    have : y = x := pb_ext (List.cons.inj e2).2
    subst this
    exact hn y (by simp)

theorem accL_len {m : Nat} : ∀ (l : List ByteArray), (∀ x ∈ l, x.size ≤ m) → (accL l).length ≤ l.length * (m + 1)
  | [], _ => by simp [accL]
  | x :: r, h => by
    have h1 := accL_len r (fun y hy => h y (by simp [hy]))
    have h2 := h x (by simp)
    have e : accL (x :: r) = (47 :: pb x) ++ accL r := by simp [accL]
    rw [e, List.length_append, List.length_cons, pb_size, List.length_cons, Nat.add_mul]
    omega
theorem join_le {m : Nat} {l : List ByteArray} (h : ∀ x ∈ l, x.size ≤ m) : (joinD l).size ≤ 1 + l.length * (m + 1) := by
  by_cases h0 : l = []
  · subst h0
    rw [show joinD [] = ⟨#[47]⟩ by decide +kernel]
    exact Nat.le_add_right 1 _
  · rw [accB_join l h0, ← pb_size]
    unfold accB mkB
    rw [pb_mk]
    have := accL_len l h
    omega
theorem join_take_le (l : List ByteArray) (k : Nat) : (joinD (l.take k)).size ≤ (joinD l).size := by
  by_cases h0 : l.take k = []
  · rw [h0, join_size, join_size]
    simp [List.intercalate]
  · have h1 : l ≠ [] := by intro e; rw [e, List.take_nil] at h0; exact h0 rfl
    rw [accB_join _ h0, accB_join _ h1]
    exact accB_size l k
theorem up_parent {l : List ByteArray} {m : Nat} (h : ∀ x ∈ l, nameD x) (hm : m < l.length) : parD (joinD (l.take (m + 1))) = ⟨joinD (l.take m), l[m], 0⟩ := by
  have hs : splitD (joinD (l.take (m + 1))) = (l.take (m + 1), 0) := split_join (fun x hx => h x (List.mem_of_mem_take hx))
  have hl : (l.take (m + 1)).length = m + 1 := by rw [List.length_take]; omega
  rw [parD_ok (by rw [hs]) (by rw [hs]; intro e; have e : l.take (m + 1) = [] := e; rw [e] at hl; cases hl), hs]
  dsimp only
  rw [← front_take hl, List.take_take, Nat.min_eq_left (Nat.le_succ m)]
  have h2 := last_at hl
  rw [List.getElem?_take_of_lt (Nat.lt_succ_self m), List.getElem?_eq_getElem hm] at h2
  rw [← Option.some.inj h2]
theorem take_all {l : List ByteArray} {k : Nat} {p : ByteArray → Prop} (hk : k < l.length) (h : ∀ x ∈ l.take k, p x) (hx : p l[k]) : ∀ x ∈ l.take (k + 1), p x := by
  rw [List.take_succ_eq_append_getElem hk]
  intro x h1
  rcases List.mem_append.1 h1 with e | e
  · exact h x e
  · rw [List.mem_singleton.1 e]; exact hx
end Go.Proofs.YteimpebfenpifaaGreatDoor

namespace Go.Proofs.YteimpebfenpifaaGreatDoor
open Go.RowKit

set_option maxRecDepth 100000 in
theorem infoU8 : (Tryz.prog.info? 5).map (fun i => (i.zero, i.size, i.bytes)) = some (some (.int .u8 0), 1, 1) := by kernel_rfl

def byV (c : UInt8) : Value := .int .u8 (c.toNat : Int)

/-- The value v is a slice of the call's own that holds the bytes l. -/
def Buf (w : World) (base : Nat) (v : Value) (l : List UInt8) : Prop := w.ownsRow base 5 1 v l.length (l.map byV)

set_option maxRecDepth 100000 in
theorem Buf.nil (w : World) (base : Nat) : Buf w base (.slice none 0 0) [] := World.ownsRow_nil _ _ _ _

set_option maxRecDepth 100000 in
theorem strOfNums_bytes (l : List UInt8) : strOfNums (l.map fun c => (c.toNat : Int)) = ⟨l.toArray⟩ := by
  unfold strOfNums
  congr 1
  rw [List.map_map]
  have : (fun n : Int => UInt8.ofNat n.toNat) ∘ (fun c : UInt8 => (c.toNat : Int)) = id := by
    funext c; simp
  rw [this, List.map_id]

set_option maxRecDepth 100000 in
theorem getD_bytes (l : List UInt8) (i : Nat) (h : i < l.length) : (l.map byV)[i]? = some (.int .u8 ((l.map fun c => (c.toNat : Int)).getD i 0)) := by
  simp [byV, List.getD, List.getElem?_eq_getElem h]

set_option maxRecDepth 100000 in
/-- 'string(b)'. -/
theorem Buf.text {w : World} {base : Nat} {v : Value} {l : List UInt8} (h : Buf w base v l) :
    (convert 76 9 v).run Tryz.prog w = .ok (.string ⟨l.toArray⟩) w := by
  have h' := h
  rcases h.2 with ⟨rfl, h0⟩ | ⟨g, cap, cur, rfl, _⟩
  · have : l = [] := List.eq_nil_of_length_eq_zero h0
    subst this
    exact run_convert_bytes_nil w _ _ Tryz.underlying76 Tryz.underlying5 _ _ _ Tryz.underlying9
  · have := run_convert_bytes_arg (P := Tryz.prog) w _ _ Tryz.underlying76 Tryz.underlying5 g 0 l.length cap (l.map fun c => (c.toNat : Int)) (by simp) (fun i hi => by
      rw [Nat.zero_add, World.ownsRow.cellAt h i (by omega)]; exact getD_bytes l i hi) _ Tryz.underlying9
    rw [strOfNums_bytes] at this
    exact this

set_option maxRecDepth 100000 in
theorem Buf.own_block {w : World} {base : Nat} {v : Value} {l : List UInt8} (h : Buf w base v l) : ∀ k, v.ownBlock = some k → base ≤ k := by
  intro k hk
  rcases h.2 with ⟨rfl, _⟩ | ⟨g, cap, cur, rfl, hg, _⟩
  · cases hk
  · simp [Value.ownBlock] at hk; omega

set_option maxRecDepth 100000 in
/-- 'append(out, c ..)' on such a slice. -/
theorem wp_buf_push {ops : Array Oper} {rest : List Oper} {o : Oper} {a : Act} {Q : Exit → Act → World → Prop} (W : World) (hgd : o.guard = none) (s x : Operand)
    (ho : o.op = .call { callee := .builtin .append, args := #[s, x], argTypes := #[76, 76] })
    (base : Nat) (v : Value) (l : List UInt8) (hs : a.eval s = v) (hb : Buf W base v l)
    (ad : Addr) (m c : Nat) (cs : List UInt8) (hx : a.eval x = .slice (some ad) m c) (hm : cs.length = m) (hcell : ∀ j u, cs[j]? = some u → W.cell? (ad.add j) = some (byV u))
    (hbytes : l.length + m ≤ 140737488355328) (hbase : base ≤ W.heap.size)
    (h : ∀ v' w', Buf w' base v' (l ++ cs) → Below base W w' → wpList Tryz.prog ops Q rest (a.put o.dst v') w') : wpList Tryz.prog ops Q (o :: rest) a W := by
  obtain ⟨i0, hi, hz0, hz1, hz2⟩ := info_parts infoU8
  subst hm
  refine wpList_append_own W hgd s x 76 ho base 5 i0 (.int .u8 0) 1 1 Tryz.underlying76 hi hz0 hz1 hz2 rfl (by decide) v l.length _ hs hb ad cs.length c (cs.map byV) hx (by simp) ?_ ?_ (by unfold maxLen; omega) (by omega) hbase ?_
  · intro j u hu
    rw [List.getElem?_map] at hu
    obtain ⟨y, hy, rfl⟩ := Option.map_eq_some_iff.1 hu
    exact hcell j y hy
  · intro u hu
    obtain ⟨y, _, rfl⟩ := List.mem_map.1 hu
    rfl
  · intro v' w' h1 h2 _
    refine h v' w' ?_ ((Below.refl base W).grown h2 hbase hb.own_block)
    unfold Buf
    rw [List.map_append, List.length_append]
    exact h1

set_option maxRecDepth 100000 in
theorem Buf.alloc {w : World} {base : Nat} {v : Value} {l : List UInt8} (h : Buf w base v l) (o : Obj) : Buf (w.alloc o) base v l := World.ownsRow.alloc h o
set_option maxRecDepth 100000 in
theorem Buf.base_size {w : World} {base : Nat} {W : World} (h : Below base W w) (hb : base ≤ W.heap.size) : base ≤ w.heap.size := Nat.le_trans hb h.size

set_option maxRecDepth 100000 in
/-- The same at a step of a region that draws its order. -/
theorem step_buf_push {ops : Array Oper} {o : Oper} {a : Act} {W : World} {K : Act → World → Prop} {Q : Exit → Act → World → Prop} {E : Prop} (hgd : o.guard = none) (s x : Operand)
    (ho : o.op = .call { callee := .builtin .append, args := #[s, x], argTypes := #[76, 76] })
    (base : Nat) (v : Value) (l : List UInt8) (hs : a.eval s = v) (hb : Buf W base v l)
    (ad : Addr) (m c : Nat) (cs : List UInt8) (hx : a.eval x = .slice (some ad) m c) (hm : cs.length = m) (hcell : ∀ j u, cs[j]? = some u → W.cell? (ad.add j) = some (byV u))
    (hbytes : l.length + m ≤ 140737488355328) (hbase : base ≤ W.heap.size)
    (h : ∀ v' w', Buf w' base v' (l ++ cs) → Below base W w' → K (a.put o.dst v') w') :
    if Region.wanted o (yielded ops a.tmps) = true then Oper.wp Tryz.prog o a W K Q else E := by
  have hw : Region.wanted o (yielded ops a.tmps) = true := by simp [Region.wanted, hgd]
  rw [if_pos hw]
  obtain ⟨i0, hi, hz0, hz1, hz2⟩ := info_parts infoU8
  subst hm
  refine wp_append_own W s x 76 ho base 5 i0 (.int .u8 0) 1 1 Tryz.underlying76 hi hz0 hz1 hz2 rfl (by decide) v l.length _ hs hb ad cs.length c (cs.map byV) hx (by simp) ?_ ?_ (by unfold maxLen; omega) (by omega) hbase ?_
  · intro j u hu
    rw [List.getElem?_map] at hu
    obtain ⟨y, hy, rfl⟩ := Option.map_eq_some_iff.1 hu
    exact hcell j y hy
  · intro u hu
    obtain ⟨y, _, rfl⟩ := List.mem_map.1 hu
    rfl
  · intro v' w' h1 h2 _
    refine h v' w' ?_ ((Below.refl base W).grown h2 hbase hb.own_block)
    unfold Buf
    rw [List.map_append, List.length_append]
    exact h1

set_option maxRecDepth 100000 in
/-- 'make([]byte, 0, n)'. -/
theorem wp_buf_make {ops : Array Oper} {rest : List Oper} {o : Oper} {a : Act} {Q : Exit → Act → World → Prop} (W : World) (hgd : o.guard = none) (l c : Operand)
    (ho : o.op = Op.makeSlice 76 l c) (base : Nat) (kl kc : IntKind) (C : Int) (n : Nat) (hl : a.eval l = .int kl 0) (hc : a.eval c = .int kc C) (hC : C = (n : Int))
    (hn : n ≤ 281474976710656) (hbase : base ≤ W.heap.size)
    (h : ∀ v' w', Buf w' base v' [] → Below base W w' → wpList Tryz.prog ops Q rest (a.put o.dst v') w') : wpList Tryz.prog ops Q (o :: rest) a W := by
  obtain ⟨i0, hi, hz0, hz1, hz2⟩ := info_parts infoU8
  refine wpList_make_own W hgd l c 76 ho base 5 i0 (.int .u8 0) 1 Tryz.underlying76 hi hz0 hz1 kl kc C n hl hc hC (by rw [hz2]; omega) (by unfold maxLen; omega) hbase ?_
  intro w' h1 h2
  refine h _ w' ?_ ((Below.refl base W).grown h2 hbase (fun k hk => by cases hk))
  rcases h1.2 with ⟨h', _⟩ | ⟨g, cap, cur, e, hg, hh, h3, h4, h5, h6⟩
  · simp at h'
  · exact ⟨rfl, .inr ⟨g, cap, cur, e, hg, hh, h3, h4, h5, h6⟩⟩

/-- A slice's length, for a loop's measure. -/
def lenOf : Value → Nat
  | .slice _ n _ => n
  | _ => 0
set_option maxRecDepth 100000 in
theorem Buf.len {w : World} {base : Nat} {v : Value} {l : List UInt8} (h : Buf w base v l) : lenOf v = l.length := by
  rcases h.2 with ⟨rfl, h0⟩ | ⟨g, cap, cur, rfl, _⟩
  · exact h0.symm
  · rfl
set_option maxRecDepth 100000 in
theorem Buf.shape {w : World} {base : Nat} {v : Value} {l : List UInt8} (h : Buf w base v l) : ∃ a cap, v = .slice a l.length cap := by
  rcases h.2 with ⟨rfl, h0⟩ | ⟨g, cap, cur, rfl, _⟩
  · exact ⟨none, 0, by rw [h0]⟩
  · exact ⟨_, cap, rfl⟩
end Go.Proofs.YteimpebfenpifaaGreatDoor

namespace Go.Proofs.YteimpebfenpifaaGreatDoor
open Go.RowKit

/-- The builder in block b holds the bytes l; its buffer and itself are the call's own from B on. -/
def IsBd (w : World) (B b : Nat) (l : List UInt8) : Prop := Lib.IsBuilder 97 5 B b (Lib.byteCells l) w
theorem sizeBd : (Tryz.prog.info? 97).map (·.size) = some 2 := by kernel_rfl
theorem liesBd : liesAt Tryz.prog Tryz.prog.depth 97 (2 / Tryz.prog.cellsOf 97) 0 97 1 = true := by kernel_rfl
theorem infoBd : (Tryz.prog.info? 5).map (fun i => (i.zero, i.size, i.bytes)) = some (some (.int .u8 0), 1, 1) := by kernel_rfl

theorem IsBd.new (w : World) (B : Nat) (hB : B ≤ w.heap.size) : IsBd (w.alloc (.cells #[.pointer none, .slice none 0 0] 97)) B w.heap.size [] :=
  .inl ⟨hB, .slice none 0 0, heap_alloc_new w _, World.ownsRow_nil _ _ _ _, by simp [Value.ownBlock]⟩

set_option maxRecDepth 100000 in
set_option maxHeartbeats 1000000 in
theorem bdcheck_fresh (b : Nat) (w : World) (h0 : w.cell? ⟨b, 0, none⟩ = some (.pointer none)) (hsh : w.shape? b = some (97, 2)) (hfz : w.frozen? ⟨b, 0, none⟩ = false) :
    Calls Tryz.prog 89 #[.pointer (some ⟨b, 0, none⟩)] w fun e w' => e = .returned (.tuple #[]) ∧ w' = w.setCell ⟨b, 0, none⟩ (.pointer (some ⟨b, 0, none⟩)) := by
  obtain ⟨j, hj, hjs⟩ := Option.map_eq_some_iff.1 sizeBd
  go_enter Tryz.func89, Tryz.ntmps89
  go_wp2
  rw [Lib.run_to_unsafe w ⟨b, 0, none⟩ Tryz.underlying95 Tryz.underlying123 hj (by rw [hjs]; decide) hsh (Nat.zero_lt_succ 1)]
  simp only [Result.andThen]
  rw [Oper.upon_value]
  go_wp2
  rw [run_callFunc_extern Tryz.func100 (by kernel_rfl) (by kernel_rfl) (by kernel_rfl) (e := Extern.AbiNoEscape.same) (by kernel_rfl)]
  rw [Lib.run_noEscape]
  simp only [Result.andThen]
  rw [Oper.upon_value]
  go_wp2
  rw [Lib.run_from_unsafe w ⟨b, 0, none⟩ Tryz.underlying123 Tryz.underlying95 hj hsh liesBd]
  simp only [Result.andThen]
  rw [Oper.upon_value]
  go_wp2
  go_end0
  exact ⟨rfl, rfl⟩

set_option maxRecDepth 100000 in
set_option maxHeartbeats 1000000 in
theorem bdcheck_used (b : Nat) (w : World) (h0 : w.cell? ⟨b, 0, none⟩ = some (.pointer (some ⟨b, 0, none⟩))) :
    Calls Tryz.prog 89 #[.pointer (some ⟨b, 0, none⟩)] w fun e w' => e = .returned (.tuple #[]) ∧ w' = w := by
  obtain ⟨j, hj, _⟩ := Option.map_eq_some_iff.1 sizeBd
  go_enter Tryz.func89, Tryz.ntmps89
  go_wp2
  rw [Lib.run_neq_ptr_same w _ Tryz.underlying95 hj]
  go_wp2
  go_end0
  exact ⟨rfl, rfl⟩

theorem bdcheck_any (B b : Nat) (l : List UInt8) (w : World) (h : IsBd w B b l) :
    Calls Tryz.prog 89 #[.pointer (some ⟨b, 0, none⟩)] w fun e w' => e = .returned (.tuple #[]) ∧ Lib.BuilderAt 97 5 B b (.pointer (some ⟨b, 0, none⟩)) (Lib.byteCells l) w' ∧ Below B w w' := by
  rcases h with h | h
  · refine (bdcheck_fresh b w h.cell0 h.shape h.frozen0).mono ?_
    rintro e w' ⟨rfl, rfl⟩
    exact ⟨rfl, h.used _, (Below.refl B w).setCell (p := ⟨b, 0, none⟩) h.1 _⟩
  · refine (bdcheck_used b w h.cell0).mono ?_
    rintro e w' ⟨rfl, rfl⟩
    exact ⟨rfl, h, Below.refl B _⟩

set_option maxRecDepth 100000 in
set_option maxHeartbeats 2000000 in
/-- 'b.WriteString(s)'. -/
theorem wstr_any (B b : Nat) (l : List UInt8) (s : ByteArray) (w : World) (h : IsBd w B b l) (hlen : l.length + s.size ≤ 1000000) (hBw : B ≤ w.heap.size) :
    Calls Tryz.prog 66 #[.pointer (some ⟨b, 0, none⟩), .string s] w fun e w' => e = .returned (.tuple #[.int .i64 s.size, .nilIface]) ∧ IsBd w' B b (l ++ s.data.toList) ∧ Below B w w' := by
  obtain ⟨i0, hi, hz0, hz1, hz2⟩ := info_parts infoBd
  have hll : (Lib.byteCells l).length = l.length := Lib.byteCells_length l
  go_enter Tryz.func66, Tryz.ntmps66
  go_wp2_with fail
  refine (bdcheck_any B b l _ h).mono ?_
  rintro e w1 ⟨rfl, h1, hb1⟩
  obtain ⟨hB, v, hbk, hown, hne⟩ := h1
  have c0 : w1.cell? ⟨b, 0, none⟩ = some (.pointer (some ⟨b, 0, none⟩)) := by rw [Lib.cell_of_heap hbk]; rfl
  have c1 : w1.cell? ⟨b, 1, none⟩ = some v := by rw [Lib.cell_of_heap hbk]; rfl
  go_wp2_with (at_builtin; refine Lib.wpList_append_own_string _ rfl _ _ 76 9 rfl B 5 i0 Tryz.underlying76 Tryz.underlying9 hi hz0 hz1 hz2 _ _ _ rfl hown s rfl ?c3 ?c4 ?c5 ?_)
  case c3 => rw [hll]; unfold maxLen; omega
  case c4 => rw [hll]; omega
  case c5 => have := hb1.size; omega
  intro v' w2 hown' hgrow _
  have hlt : b < w1.heap.size := lt_of_block hbk
  have hb2 : w2.heap[b]? = some (.cells #[.pointer (some ⟨b, 0, none⟩), v] 97 (0, 0)) := by
    rw [hgrow.block b hlt (fun e => hne e.symm)]
    exact hbk
  have d0 : w2.cell? ⟨b, 0, none⟩ = some (.pointer (some ⟨b, 0, none⟩)) := by rw [Lib.cell_of_heap hb2]; rfl
  have d1 : w2.cell? ⟨b, 1, none⟩ = some v := by rw [Lib.cell_of_heap hb2]; rfl
  have f1 : w2.frozen? ⟨b, 1, none⟩ = false := Lib.frozen_of_heap hb2 1
  obtain ⟨ao, n', cap, rfl⟩ : ∃ ao n' cap, v' = .slice ao n' cap := by
    rcases hown'.2 with ⟨hv, _⟩ | ⟨g, cap, cur, hv, _⟩
    · exact ⟨_, _, _, hv⟩
    · exact ⟨_, _, _, hv⟩
  go_wp2
  go_ret2
  refine ⟨rfl, .inr ?_, ?_⟩
  · rw [Lib.byteCells_append, ← Lib.strCells_eq]
    exact Lib.BuilderAt.put (T := 97) (e := 5) hB hb2 (bs' := Lib.byteCells l ++ Lib.strCells s) (by rw [List.length_append, Lib.strCells_length, hll]; exact hown') (by decide)
  · exact (hb1.grown hgrow (by have := hb1.size; omega) (fun k hk => (hown.lt k hk).1)).setCell (p := ⟨b, 1, none⟩) hB _

/-! String: the shelf's contract, laid by names. -/
def bdRen : Go.Shelf.Ren := ⟨fun | 169 => 67 | n => n, fun | 70 => 95 | 9 => 9 | 0 => 0 | 72 => 97 | 37 => 76 | 127 => 120 | 3 => 3 | 5 => 5 | n => n, fun | n => n⟩
theorem bdLays : Go.Proofs.Lays.n169 Tryz.prog bdRen := {
  mixed := by kernel_rfl
  f169 := Tryz.func67.trans (congrArg some (by kernel_rfl))
  t0 := Tryz.underlying0
  a0 := Tryz.isAgg0
  z0 := Tryz.sizeOf0
  v0 := Tryz.zeroValue0
  t3 := Tryz.underlying3
  a3 := Tryz.isAgg3
  z3 := Tryz.sizeOf3
  v3 := Tryz.zeroValue3
  t9 := Tryz.underlying9
  a9 := Tryz.isAgg9
  z9 := Tryz.sizeOf9
  v9 := Tryz.zeroValue9
  t37 := Tryz.underlying76
  a37 := Tryz.isAgg76
  z37 := Tryz.sizeOf76
  v37 := Tryz.zeroValue76
  t70 := Tryz.underlying95
  a70 := Tryz.isAgg95
  z70 := Tryz.sizeOf95
  v70 := Tryz.zeroValue95
  t72 := Tryz.underlying97
  a72 := Tryz.isAgg97
  z72 := Tryz.sizeOf97
  v72 := Tryz.zeroValue97
  t127 := Tryz.underlying120
  a127 := Tryz.isAgg120
  z127 := Tryz.sizeOf120
  v127 := Tryz.zeroValue120 }
theorem bdExtra : Builder.Extra Tryz.prog bdRen := {
  sizeBuilder := by kernel_rfl
  liesBuilder := by kernel_rfl
  t5 := Tryz.underlying5
  a5 := Tryz.isAgg5
  z5 := Tryz.sizeOf5
  v5 := Tryz.zeroValue5
  infoByte := by kernel_rfl
  cellsByte := by kernel_rfl
  sizeByte := by kernel_rfl
  neB5 := by decide }
theorem bstr_any (B b : Nat) (l : List UInt8) (w : World) (h : IsBd w B b l) (hBw : B ≤ w.heap.size) :
    Calls Tryz.prog 67 #[.pointer (some ⟨b, 0, none⟩)] w fun e w' => e = .returned (.string ⟨l.toArray⟩) ∧ Below B w w' := Any.Builder_String_any bdLays bdExtra B b l w h hBw
end Go.Proofs.YteimpebfenpifaaGreatDoor
