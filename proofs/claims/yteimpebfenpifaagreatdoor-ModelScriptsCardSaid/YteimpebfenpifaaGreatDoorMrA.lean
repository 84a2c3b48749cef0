/-
  The reference's tree of files, as the same plain data: entries by their paths, things.
-/
import Derived.Test.YteimpebfenpifaaGreatDoorMg30
import Derived.Test.YteimpebfenpifaaGreatDoorMg17
import Derived.Laws.AppendOwnNone
import Derived.Maps.AppendAt
namespace Go.Proofs.YteimpebfenpifaaGreatDoor
open Go Go.RowKit Go.ChangeShapes Go.WideShapes Go.ChangeAt

abbrev EnD := PathD × Nat
def EnV (x : EnD) : List Value := [.string (joinD x.1), .int .i64 x.2]
def TgV (x : Th) : List Value := [.bool x.dir, .string x.text]
theorem infoEn : (Tryz.prog.info? 89).map (fun i => (i.zero, i.size, i.bytes)) = some (some (.agg #[.string ⟨#[]⟩, .int .i64 0]), 2, 24) := by kernel_rfl
theorem infoTg : (Tryz.prog.info? 60).map (fun i => (i.zero, i.size, i.bytes)) = some (some (.agg #[.bool false, .string ⟨#[]⟩]), 2, 24) := by kernel_rfl
theorem enV_len (x : EnD) : (EnV x).length = 2 := rfl
theorem tgV_len (x : Th) : (TgV x).length = 2 := rfl
theorem enV_one (x : EnD) : ∀ u ∈ EnV x, u.oneCell' = true := by
  intro u hu
  simp only [EnV, List.mem_cons, List.not_mem_nil, or_false] at hu
  rcases hu with rfl | rfl <;> rfl
theorem tgV_one (x : Th) : ∀ u ∈ TgV x, u.oneCell' = true := by
  intro u hu
  simp only [TgV, List.mem_cons, List.not_mem_nil, or_false] at hu
  rcases hu with rfl | rfl <;> rfl
/-- The value v is a slice of the call's own that holds the entries l. -/
def Ens (w : World) (v : Value) (l : List EnD) : Prop := w.ownsRow 0 89 2 v l.length (l.flatMap EnV)
def Tgs (w : World) (v : Value) (l : List Th) : Prop := w.ownsRow 0 60 2 v l.length (l.flatMap TgV)
section
variable {w w' : World} {v : Value} {l : List EnD}
theorem Ens.nil (w : World) : Ens w (.slice none 0 0) [] := World.ownsRow_nil _ _ _ _
theorem Ens.lt (h : Ens w v l) (k : Nat) (hk : v.ownBlock = some k) : k < w.heap.size := ownsRow_lt h k hk
theorem Ens.of (h : Ens w v l) (hb : ∀ k, v.ownBlock = some k → k < w.heap.size → w'.heap[k]? = w.heap[k]?) : Ens w' v l := ownsRow_of h hb
theorem Ens.keep (h : Ens w v l) (hb : Below w.heap.size w w') : Ens w' v l := h.of fun k _ hlt => hb.block k hlt
theorem Ens.form (h : Ens w v l) : (v = .slice none 0 0 ∧ l = []) ∨ ∃ g cap, v = .slice (some ⟨g, 0, none⟩) l.length cap ∧ g < w.heap.size ∧ l.length ≤ cap ∧ cap ≤ maxLen := by
  rcases h.2 with ⟨rfl, h0⟩ | ⟨g, cap, cur, rfl, hg, hh, h1, h2, _⟩
  · exact .inl ⟨rfl, List.eq_nil_of_length_eq_zero h0⟩
  · exact .inr ⟨g, cap, rfl, lt_of_block hh, h1, h2⟩
theorem Ens.shape (h : Ens w v l) : ∃ a cap, v = .slice a l.length cap := by
  rcases h.form with ⟨rfl, rfl⟩ | ⟨g, cap, rfl, _⟩
  · exact ⟨none, 0, rfl⟩
  · exact ⟨_, _, rfl⟩
theorem Ens.at {a : Option Addr} {n cap : Nat} (h : Ens w (.slice a n cap) l) {i : Nat} (hi : i < l.length) : ∃ g, a = some ⟨g, 0, none⟩ ∧ g < w.heap.size ∧ w.cell? ⟨g, i * 2, none⟩ = some (.string (joinD l[i].1)) ∧ w.cell? ⟨g, i * 2 + 1, none⟩ = some (.int .i64 l[i].2) ∧ w.frozen? ⟨g, i * 2, none⟩ = false ∧ w.frozen? ⟨g, i * 2 + 1, none⟩ = false := by
  have h' := h
  rcases h.2 with ⟨h1, h0⟩ | ⟨g, cap', cur, h1, hg, hh, _⟩
  · omega
  · injection h1 with e1 e2 e3
    subst e1 e2 e3
    refine ⟨g, rfl, lt_of_block hh, ?_, ?_, World.ownsRow.frozenAt h' _, World.ownsRow.frozenAt h' _⟩
    · have := flat_get EnV 2 enV_len l i _ (List.getElem?_eq_getElem hi) 0 (by decide)
      rw [World.ownsRow.cellAt h' (i * 2) (by omega)]; exact this
    · have := flat_get EnV 2 enV_len l i _ (List.getElem?_eq_getElem hi) 1 (by decide)
      rw [World.ownsRow.cellAt h' (i * 2 + 1) (by omega)]; exact this
end
section
variable {w w' : World} {v : Value} {l : List Th}
theorem Tgs.nil (w : World) : Tgs w (.slice none 0 0) [] := World.ownsRow_nil _ _ _ _
theorem Tgs.lt (h : Tgs w v l) (k : Nat) (hk : v.ownBlock = some k) : k < w.heap.size := ownsRow_lt h k hk
theorem Tgs.of (h : Tgs w v l) (hb : ∀ k, v.ownBlock = some k → k < w.heap.size → w'.heap[k]? = w.heap[k]?) : Tgs w' v l := ownsRow_of h hb
theorem Tgs.keep (h : Tgs w v l) (hb : Below w.heap.size w w') : Tgs w' v l := h.of fun k _ hlt => hb.block k hlt
theorem Tgs.form (h : Tgs w v l) : (v = .slice none 0 0 ∧ l = []) ∨ ∃ g cap, v = .slice (some ⟨g, 0, none⟩) l.length cap ∧ g < w.heap.size ∧ l.length ≤ cap ∧ cap ≤ maxLen := by
  rcases h.2 with ⟨rfl, h0⟩ | ⟨g, cap, cur, rfl, hg, hh, h1, h2, _⟩
  · exact .inl ⟨rfl, List.eq_nil_of_length_eq_zero h0⟩
  · exact .inr ⟨g, cap, rfl, lt_of_block hh, h1, h2⟩
theorem Tgs.shape (h : Tgs w v l) : ∃ a cap, v = .slice a l.length cap := by
  rcases h.form with ⟨rfl, rfl⟩ | ⟨g, cap, rfl, _⟩
  · exact ⟨none, 0, rfl⟩
  · exact ⟨_, _, rfl⟩
theorem Tgs.at {a : Option Addr} {n cap : Nat} (h : Tgs w (.slice a n cap) l) {i : Nat} (hi : i < l.length) : ∃ g, a = some ⟨g, 0, none⟩ ∧ g < w.heap.size ∧ w.cell? ⟨g, i * 2, none⟩ = some (.bool l[i].dir) ∧ w.cell? ⟨g, i * 2 + 1, none⟩ = some (.string l[i].text) ∧ w.frozen? ⟨g, i * 2, none⟩ = false ∧ w.frozen? ⟨g, i * 2 + 1, none⟩ = false := by
  have h' := h
  rcases h.2 with ⟨h1, h0⟩ | ⟨g, cap', cur, h1, hg, hh, _⟩
  · omega
  · injection h1 with e1 e2 e3
    subst e1 e2 e3
    refine ⟨g, rfl, lt_of_block hh, ?_, ?_, World.ownsRow.frozenAt h' _, World.ownsRow.frozenAt h' _⟩
    · have := flat_get TgV 2 tgV_len l i _ (List.getElem?_eq_getElem hi) 0 (by decide)
      rw [World.ownsRow.cellAt h' (i * 2) (by omega)]; exact this
    · have := flat_get TgV 2 tgV_len l i _ (List.getElem?_eq_getElem hi) 1 (by decide)
      rw [World.ownsRow.cellAt h' (i * 2 + 1) (by omega)]; exact this
theorem tg_set1 : ∀ (l : List Th) (i : Nat) (s : ByteArray) (_ : i < l.length), (l.flatMap TgV).set (i * 2 + 1) (.string s) = (l.set i { (l[i]?.getD ⟨false, noB⟩) with text := s }).flatMap TgV
  | y :: r, 0, s, _ => by simp [TgV]
  | y :: r, i + 1, s, hi => by
    have h := tg_set1 r i s (by simpa using hi)
    rw [List.set_cons_succ, List.flatMap_cons, List.flatMap_cons, List.getElem?_cons_succ, ← h]
    rw [show (i + 1) * 2 + 1 = i * 2 + 1 + 2 by omega]
    simp [TgV]
theorem Tgs.set {g cap n : Nat} (h : Tgs w (.slice (some ⟨g, 0, none⟩) n cap) l) (i : Nat) (hi : i < l.length) (s : ByteArray) : Tgs (w.setCell ⟨g, i * 2 + 1, none⟩ (.string s)) (.slice (some ⟨g, 0, none⟩) n cap) (l.set i { (l[i]?.getD ⟨false, noB⟩) with text := s }) := by
  have hn : n = l.length := by
    rcases h.2 with ⟨h', _⟩ | ⟨g', cap', cur, h', _⟩
    · simp at h'
    · simp only [Value.slice.injEq] at h'; exact h'.2.1
  subst hn
  have h1 := (World.ownsRow.stored h (i * 2 + 1) (.string s)).1
  unfold Tgs
  rw [tg_set1 l i s hi] at h1
  simpa using h1
end
theorem en_set0 : ∀ (l : List EnD) (i : Nat) (p : PathD) (_ : i < l.length), (l.flatMap EnV).set (i * 2) (.string (joinD p)) = (l.set i (p, (l[i]?.getD ([], 0)).2)).flatMap EnV
  | y :: r, 0, p, _ => by simp [EnV]
  | y :: r, i + 1, p, hi => by
    have h := en_set0 r i p (by simpa using hi)
    rw [List.set_cons_succ, List.flatMap_cons, List.flatMap_cons, List.getElem?_cons_succ, ← h]
    rw [show (i + 1) * 2 = i * 2 + 2 by omega]
    simp [EnV]
theorem Ens.set {w : World} {l : List EnD} {g cap n : Nat} (h : Ens w (.slice (some ⟨g, 0, none⟩) n cap) l) (i : Nat) (hi : i < l.length) (p : PathD) : Ens (w.setCell ⟨g, i * 2, none⟩ (.string (joinD p))) (.slice (some ⟨g, 0, none⟩) n cap) (l.set i (p, (l[i]?.getD ([], 0)).2)) := by
  have hn : n = l.length := by
    rcases h.2 with ⟨h', _⟩ | ⟨g', cap', cur, h', _⟩
    · simp at h'
    · simp only [Value.slice.injEq] at h'; exact h'.2.1
  subst hn
  have h1 := (World.ownsRow.stored h (i * 2) (.string (joinD p))).1
  unfold Ens
  rw [en_set0 l i p hi] at h1
  simpa using h1

/-- 'append(out, x ..)'. -/
theorem run_ens_push (W : World) (ty : TypeId) (v : Value) (l : List EnD) (hb : Ens W v l) (ad : Addr) (m c : Nat) (cs : List EnD) (hm : cs.length = m) (hcell : ∀ j u, (cs.flatMap EnV)[j]? = some u → W.cell? (ad.add j) = some u) (hbytes : l.length + m ≤ 100000) :
    ∃ v' w', (Builtin.append_ #[62, 62] ty #[v, .slice (some ad) m c]).run Tryz.prog W = .ok v' w' ∧ Ens w' v' (l ++ cs) ∧ W.grownBy w' v.ownBlock ∧ (v'.ownBlock = v.ownBlock ∨ v'.ownBlock = some W.heap.size) := by
  obtain ⟨i0, hi, hz0, hz1, hz2⟩ := info_parts infoEn
  obtain ⟨v', w', hr, hown, hg, _, hob⟩ := run_append_own_at (P := Tryz.prog) W 0 62 ty 89 i0 (.agg #[.string ⟨#[]⟩, .int .i64 0]) 2 24 Tryz.underlying62 hi hz0 hz1 hz2 rfl (by decide) v l.length _ hb ad m c (cs.flatMap EnV)
    (by rw [flat_len EnV 2 enV_len, hm]) hcell (fun u hu => by
      obtain ⟨x, _, hx⟩ := List.mem_flatMap.1 hu
      exact enV_one x u hx) (by unfold maxLen; omega) (by omega) (Nat.zero_le _)
  refine ⟨v', w', hr, ?_, hg, hob⟩
  unfold Ens
  rw [List.flatMap_append, List.length_append, hm]
  exact hown
theorem wp_ens_push {ops : Array Oper} {rest : List Oper} {o : Oper} {a : Act} {Q : Exit → Act → World → Prop} (W : World) (hgd : o.guard = none) (s x : Operand)
    (ho : o.op = .call { callee := .builtin .append, args := #[s, x], argTypes := #[62, 62] })
    (v : Value) (l : List EnD) (hs : a.eval s = v) (hb : Ens W v l) (ad : Addr) (m c : Nat) (cs : List EnD) (hx : a.eval x = .slice (some ad) m c) (hm : cs.length = m) (hcell : ∀ j u, (cs.flatMap EnV)[j]? = some u → W.cell? (ad.add j) = some u) (hbytes : l.length + m ≤ 100000)
    (h : ∀ v' w', Ens w' v' (l ++ cs) → W.grownBy w' v.ownBlock → (v'.ownBlock = v.ownBlock ∨ v'.ownBlock = some W.heap.size) → wpList Tryz.prog ops Q rest (a.put o.dst v') w') : wpList Tryz.prog ops Q (o :: rest) a W := by
  obtain ⟨v', w', hr, h1, h2, h3⟩ := run_ens_push W o.type v l hb ad m c cs hm hcell hbytes
  refine wpList_plain hgd fun K hK => ?_
  unfold Oper.wp execOp
  simp only [ho, resolve, invoke, builtin, Sem.run_bind, Sem.run_pure, Result.andThen_ok, List.map_toArray, List.map_cons, List.map_nil, hs, hx, hr]
  exact hK _ _ (h v' w' h1 h2 h3)
theorem step_ens_push {ops : Array Oper} {o : Oper} {a : Act} {W : World} {K : Act → World → Prop} {Q : Exit → Act → World → Prop} {E : Prop} (hgd : o.guard = none) (s x : Operand)
    (ho : o.op = .call { callee := .builtin .append, args := #[s, x], argTypes := #[62, 62] })
    (v : Value) (l : List EnD) (hs : a.eval s = v) (hb : Ens W v l) (ad : Addr) (m c : Nat) (cs : List EnD) (hx : a.eval x = .slice (some ad) m c) (hm : cs.length = m) (hcell : ∀ j u, (cs.flatMap EnV)[j]? = some u → W.cell? (ad.add j) = some u) (hbytes : l.length + m ≤ 100000)
    (h : ∀ v' w', Ens w' v' (l ++ cs) → W.grownBy w' v.ownBlock → (v'.ownBlock = v.ownBlock ∨ v'.ownBlock = some W.heap.size) → K (a.put o.dst v') w') :
    if Region.wanted o (yielded ops a.tmps) = true then Oper.wp Tryz.prog o a W K Q else E := by
  have hw : Region.wanted o (yielded ops a.tmps) = true := by simp [Region.wanted, hgd]
  rw [if_pos hw]
  obtain ⟨v', w', hr, h1, h2, h3⟩ := run_ens_push W o.type v l hb ad m c cs hm hcell hbytes
  unfold Oper.wp execOp
  simp only [ho, resolve, invoke, builtin, Sem.run_bind, Sem.run_pure, Result.andThen_ok, List.map_toArray, List.map_cons, List.map_nil, hs, hx, hr]
  exact h v' w' h1 h2 h3
/-- All of a row, behind none. -/
theorem step_ens_all {ops : Array Oper} {o : Oper} {a : Act} {W : World} {K : Act → World → Prop} {Q : Exit → Act → World → Prop} {E : Prop} (hgd : o.guard = none) (s x : Operand)
    (ho : o.op = .call { callee := .builtin .append, args := #[s, x], argTypes := #[62, 62] })
    (l : List EnD) (hs : a.eval s = .slice none 0 0) (v : Value) (hx : a.eval x = v) (hb : Ens W v l) (hbytes : l.length ≤ 100000)
    (h : ∀ v' w', Ens w' v' l → W.grownBy w' none → (v'.ownBlock = none ∨ v'.ownBlock = some W.heap.size) → K (a.put o.dst v') w') :
    if Region.wanted o (yielded ops a.tmps) = true then Oper.wp Tryz.prog o a W K Q else E := by
  rcases hb.form with ⟨rfl, rfl⟩ | ⟨g, cap, rfl, _, _, _⟩
  · have hw : Region.wanted o (yielded ops a.tmps) = true := by simp [Region.wanted, hgd]
    rw [if_pos hw]
    obtain ⟨i0, hi, _⟩ := info_parts infoEn
    have hr : (Builtin.append_ #[62, 62] o.type #[.slice none 0 0, .slice none 0 0]).run Tryz.prog W = .ok (.slice none 0 0) W := run_append_owned_none (P := Tryz.prog) (w := W) 0 62 o.type 89 i0 2 Tryz.underlying62 hi _ _ _ hb
    unfold Oper.wp execOp
    simp only [ho, resolve, invoke, builtin, Sem.run_bind, Sem.run_pure, Result.andThen_ok, List.map_toArray, List.map_cons, List.map_nil, hs, hx, hr]
    exact h _ _ hb ⟨rfl, rfl, rfl, Nat.le_refl _, fun _ _ _ => rfl⟩ (.inl rfl)
  · refine step_ens_push hgd s x ho (.slice none 0 0) [] hs (Ens.nil W) ⟨g, 0, none⟩ l.length cap l hx rfl (fun j u hu => ?_) (by simpa using hbytes) (fun v' w' h1 h2 h3 => h v' w' h1 h2 h3)
    exact World.ownsRow.cells hb (g := g) rfl j u hu
/-- 'append(out, x ..)'. -/
theorem run_tgs_push (W : World) (ty : TypeId) (v : Value) (l : List Th) (hb : Tgs W v l) (ad : Addr) (m c : Nat) (cs : List Th) (hm : cs.length = m) (hcell : ∀ j u, (cs.flatMap TgV)[j]? = some u → W.cell? (ad.add j) = some u) (hbytes : l.length + m ≤ 100000) :
    ∃ v' w', (Builtin.append_ #[61, 61] ty #[v, .slice (some ad) m c]).run Tryz.prog W = .ok v' w' ∧ Tgs w' v' (l ++ cs) ∧ W.grownBy w' v.ownBlock ∧ (v'.ownBlock = v.ownBlock ∨ v'.ownBlock = some W.heap.size) := by
  obtain ⟨i0, hi, hz0, hz1, hz2⟩ := info_parts infoTg
  obtain ⟨v', w', hr, hown, hg, _, hob⟩ := run_append_own_at (P := Tryz.prog) W 0 61 ty 60 i0 (.agg #[.bool false, .string ⟨#[]⟩]) 2 24 Tryz.underlying61 hi hz0 hz1 hz2 rfl (by decide) v l.length _ hb ad m c (cs.flatMap TgV)
    (by rw [flat_len TgV 2 tgV_len, hm]) hcell (fun u hu => by
      obtain ⟨x, _, hx⟩ := List.mem_flatMap.1 hu
      exact tgV_one x u hx) (by unfold maxLen; omega) (by omega) (Nat.zero_le _)
  refine ⟨v', w', hr, ?_, hg, hob⟩
  unfold Tgs
  rw [List.flatMap_append, List.length_append, hm]
  exact hown
theorem wp_tgs_push {ops : Array Oper} {rest : List Oper} {o : Oper} {a : Act} {Q : Exit → Act → World → Prop} (W : World) (hgd : o.guard = none) (s x : Operand)
    (ho : o.op = .call { callee := .builtin .append, args := #[s, x], argTypes := #[61, 61] })
    (v : Value) (l : List Th) (hs : a.eval s = v) (hb : Tgs W v l) (ad : Addr) (m c : Nat) (cs : List Th) (hx : a.eval x = .slice (some ad) m c) (hm : cs.length = m) (hcell : ∀ j u, (cs.flatMap TgV)[j]? = some u → W.cell? (ad.add j) = some u) (hbytes : l.length + m ≤ 100000)
    (h : ∀ v' w', Tgs w' v' (l ++ cs) → W.grownBy w' v.ownBlock → (v'.ownBlock = v.ownBlock ∨ v'.ownBlock = some W.heap.size) → wpList Tryz.prog ops Q rest (a.put o.dst v') w') : wpList Tryz.prog ops Q (o :: rest) a W := by
  obtain ⟨v', w', hr, h1, h2, h3⟩ := run_tgs_push W o.type v l hb ad m c cs hm hcell hbytes
  refine wpList_plain hgd fun K hK => ?_
  unfold Oper.wp execOp
  simp only [ho, resolve, invoke, builtin, Sem.run_bind, Sem.run_pure, Result.andThen_ok, List.map_toArray, List.map_cons, List.map_nil, hs, hx, hr]
  exact hK _ _ (h v' w' h1 h2 h3)
theorem step_tgs_push {ops : Array Oper} {o : Oper} {a : Act} {W : World} {K : Act → World → Prop} {Q : Exit → Act → World → Prop} {E : Prop} (hgd : o.guard = none) (s x : Operand)
    (ho : o.op = .call { callee := .builtin .append, args := #[s, x], argTypes := #[61, 61] })
    (v : Value) (l : List Th) (hs : a.eval s = v) (hb : Tgs W v l) (ad : Addr) (m c : Nat) (cs : List Th) (hx : a.eval x = .slice (some ad) m c) (hm : cs.length = m) (hcell : ∀ j u, (cs.flatMap TgV)[j]? = some u → W.cell? (ad.add j) = some u) (hbytes : l.length + m ≤ 100000)
    (h : ∀ v' w', Tgs w' v' (l ++ cs) → W.grownBy w' v.ownBlock → (v'.ownBlock = v.ownBlock ∨ v'.ownBlock = some W.heap.size) → K (a.put o.dst v') w') :
    if Region.wanted o (yielded ops a.tmps) = true then Oper.wp Tryz.prog o a W K Q else E := by
  have hw : Region.wanted o (yielded ops a.tmps) = true := by simp [Region.wanted, hgd]
  rw [if_pos hw]
  obtain ⟨v', w', hr, h1, h2, h3⟩ := run_tgs_push W o.type v l hb ad m c cs hm hcell hbytes
  unfold Oper.wp execOp
  simp only [ho, resolve, invoke, builtin, Sem.run_bind, Sem.run_pure, Result.andThen_ok, List.map_toArray, List.map_cons, List.map_nil, hs, hx, hr]
  exact h v' w' h1 h2 h3
/-- All of a row, behind none. -/
theorem step_tgs_all {ops : Array Oper} {o : Oper} {a : Act} {W : World} {K : Act → World → Prop} {Q : Exit → Act → World → Prop} {E : Prop} (hgd : o.guard = none) (s x : Operand)
    (ho : o.op = .call { callee := .builtin .append, args := #[s, x], argTypes := #[61, 61] })
    (l : List Th) (hs : a.eval s = .slice none 0 0) (v : Value) (hx : a.eval x = v) (hb : Tgs W v l) (hbytes : l.length ≤ 100000)
    (h : ∀ v' w', Tgs w' v' l → W.grownBy w' none → (v'.ownBlock = none ∨ v'.ownBlock = some W.heap.size) → K (a.put o.dst v') w') :
    if Region.wanted o (yielded ops a.tmps) = true then Oper.wp Tryz.prog o a W K Q else E := by
  rcases hb.form with ⟨rfl, rfl⟩ | ⟨g, cap, rfl, _, _, _⟩
  · have hw : Region.wanted o (yielded ops a.tmps) = true := by simp [Region.wanted, hgd]
    rw [if_pos hw]
    obtain ⟨i0, hi, _⟩ := info_parts infoTg
    have hr : (Builtin.append_ #[61, 61] o.type #[.slice none 0 0, .slice none 0 0]).run Tryz.prog W = .ok (.slice none 0 0) W := run_append_owned_none (P := Tryz.prog) (w := W) 0 61 o.type 60 i0 2 Tryz.underlying61 hi _ _ _ hb
    unfold Oper.wp execOp
    simp only [ho, resolve, invoke, builtin, Sem.run_bind, Sem.run_pure, Result.andThen_ok, List.map_toArray, List.map_cons, List.map_nil, hs, hx, hr]
    exact h _ _ hb ⟨rfl, rfl, rfl, Nat.le_refl _, fun _ _ _ => rfl⟩ (.inl rfl)
  · refine step_tgs_push hgd s x ho (.slice none 0 0) [] hs (Tgs.nil W) ⟨g, 0, none⟩ l.length cap l hx rfl (fun j u hu => ?_) (by simpa using hbytes) (fun v' w' h1 h2 h3 => h v' w' h1 h2 h3)
    exact World.ownsRow.cells hb (g := g) rfl j u hu

/-- Where the reference's tree lies. -/
structure RmP where
  b : Nat
  ev : Value
  tv : Value
def RmP.fp (p : RmP) : List Nat := p.b :: (p.ev.ownBlock.toList ++ p.tv.ownBlock.toList)
structure RmAt (w : World) (p : RmP) (G : GD) : Prop where
  box : Box w p.b 64 #[p.ev, p.tv]
  e : Ens w p.ev G.E
  t : Tgs w p.tv G.T
  ne : ∀ k, p.ev.ownBlock = some k → p.b ≠ k ∧ p.tv.ownBlock ≠ some k
  nt : ∀ k, p.tv.ownBlock = some k → p.b ≠ k
theorem fp_mem {p : RmP} {k : Nat} : k ∈ p.fp ↔ k = p.b ∨ p.ev.ownBlock = some k ∨ p.tv.ownBlock = some k := by
  unfold RmP.fp
  rw [List.mem_cons, List.mem_append, Option.mem_toList, Option.mem_toList]
theorem rm_chg (w : World) (b j : Nat) (v : Value) : Chg [b] w (w.setCell ⟨b, j, none⟩ v) := (Chg.refl [b] w).set b j v (.inl (by simp))
section
variable {w w' : World} {p : RmP} {G : GD}
theorem RmAt.lt (h : RmAt w p G) : ∀ k ∈ p.fp, k < w.heap.size := by
  intro k hk
  rcases fp_mem.1 hk with rfl | hk | hk
  · exact h.box.lt
  · exact h.e.lt k hk
  · exact h.t.lt k hk
theorem RmAt.of (h : RmAt w p G) (hb : ∀ k ∈ p.fp, k < w.heap.size → w'.heap[k]? = w.heap[k]?) : RmAt w' p G :=
  ⟨h.box.of (hb _ (fp_mem.2 (.inl rfl)) h.box.lt), h.e.of fun k hk hl => hb k (fp_mem.2 (.inr (.inl hk))) hl, h.t.of fun k hk hl => hb k (fp_mem.2 (.inr (.inr hk))) hl, h.ne, h.nt⟩
theorem RmAt.keep (h : RmAt w p G) (hb : Below w.heap.size w w') : RmAt w' p G := h.of fun k _ hl => hb.block k hl
theorem RmAt.drew (h : RmAt w p G) : RmAt w.drew p G := h.of fun _ _ _ => rfl
/-- From p's blocks: what changed lies in them; behind it there is the tree G'. -/
def RmTo (p : RmP) (G' : GD) (w w' : World) : Prop := ∃ p', p'.b = p.b ∧ RmAt w' p' G' ∧ Chg p.fp w w' ∧ ∀ k ∈ p'.fp, k ∈ p.fp ∨ w.heap.size ≤ k
def RmTq (p q : RmP) (G' : GD) (w w' : World) : Prop := q.b = p.b ∧ RmAt w' q G' ∧ Chg p.fp w w' ∧ ∀ k ∈ q.fp, k ∈ p.fp ∨ w.heap.size ≤ k
theorem RmTq.to {q : RmP} {G' : GD} (h : RmTq p q G' w w') : RmTo p G' w w' := ⟨q, h⟩
theorem RmTo.same (h : RmAt w p G) (hb : Below w.heap.size w w') : RmTo p G w w' := ⟨p, rfl, h.keep hb, Chg.of hb (Nat.le_refl _), fun _ h => .inl h⟩
theorem RmTo.ahead {w1 : World} (hb : Below w.heap.size w w1) (h : RmTo p G w1 w') : RmTo p G w w' := by
  obtain ⟨p', e, h1, h2, h3⟩ := h
  refine ⟨p', e, h1, (Chg.of (S := p.fp) hb (Nat.le_refl _)).trans h2, fun k hk => ?_⟩
  rcases h3 k hk with h | h
  · exact .inl h
  · exact .inr (Nat.le_trans hb.size h)
theorem RmTo.behind {w1 : World} (h : RmTo p G w w1) (hb : Below w1.heap.size w1 w') : RmTo p G w w' := by
  obtain ⟨p', e, h1, h2, h3⟩ := h
  exact ⟨p', e, h1.keep hb, h2.trans (Chg.of hb (Nat.le_refl _)), h3⟩
theorem RmTo.next {G2 : GD} {w1 : World} (h : RmTo p G w w1) (k : ∀ p', p'.b = p.b → RmAt w1 p' G → RmTo p' G2 w1 w') : RmTo p G2 w w' := by
  obtain ⟨p', e, h1, h2, h3⟩ := h
  obtain ⟨q, f, k1, k2, k3⟩ := k p' e h1
  refine ⟨q, f.trans e, k1, h2.then k2 h3, fun j hj => ?_⟩
  rcases k3 j hj with h | h
  · exact h3 j h
  · exact .inr (Nat.le_trans h2.size h)
/-- The entries, in another row. -/
theorem RmAt.atE {v' : Value} {l' : List EnD} (h : RmAt w p G) (hc : Chg p.ev.ownBlock.toList w w') (hv : Ens w' v' l') (hn : ∀ k, v'.ownBlock = some k → p.ev.ownBlock = some k ∨ w.heap.size ≤ k) : RmTq p ⟨p.b, v', p.tv⟩ ⟨l', G.T⟩ w (w'.setCell ⟨p.b, 0, none⟩ v') := by
  have hs := rm_chg w' p.b 0 v'
  have hbx := h.box.of (hc.block p.b h.box.lt (fun hm => (h.ne _ (Option.mem_toList.1 hm)).1 rfl))
  have hvb : ∀ k, v'.ownBlock = some k → p.b ≠ k ∧ p.tv.ownBlock ≠ some k := fun k hk => by
    rcases hn k hk with e | e
    · exact h.ne k e
    · exact ⟨fun e2 => by have := h.box.lt; omega, fun e2 => by have := h.t.lt k e2; omega⟩
  refine ⟨rfl, ⟨hbx.set 0 v', hv.of fun k hk hl => hs.block k hl (by simpa using Ne.symm (hvb k hk).1), ?_, hvb, h.nt⟩, ?_, fun k hk => ?_⟩
  · refine h.t.of fun k hk hl => ?_
    rw [hs.block k (Nat.lt_of_lt_of_le hl hc.size) (by simpa using Ne.symm (h.nt k hk)), hc.block k hl (fun hm => (h.ne k (Option.mem_toList.1 hm)).2 hk)]
  · refine (hc.mono (fun k hk => fp_mem.2 (.inr (.inl (Option.mem_toList.1 hk))))).trans (hs.mono (fun k hk => ?_))
    rw [List.mem_singleton] at hk
    exact fp_mem.2 (.inl hk)
  · rcases fp_mem.1 hk with hk | hk | hk
    · exact .inl (fp_mem.2 (.inl hk))
    · rcases hn k hk with e | e
      · exact .inl (fp_mem.2 (.inr (.inl e)))
      · exact .inr e
    · exact .inl (fp_mem.2 (.inr (.inr hk)))
theorem RmAt.toE {v' : Value} {l' : List EnD} (h : RmAt w p G) (hc : Chg p.ev.ownBlock.toList w w') (hv : Ens w' v' l') (hn : ∀ k, v'.ownBlock = some k → p.ev.ownBlock = some k ∨ w.heap.size ≤ k) : RmTo p ⟨l', G.T⟩ w (w'.setCell ⟨p.b, 0, none⟩ v') :=
  (h.atE hc hv hn).to
theorem RmAt.atT {v' : Value} {l' : List Th} (h : RmAt w p G) (hc : Chg p.tv.ownBlock.toList w w') (hv : Tgs w' v' l') (hn : ∀ k, v'.ownBlock = some k → p.tv.ownBlock = some k ∨ w.heap.size ≤ k) : RmTq p ⟨p.b, p.ev, v'⟩ ⟨G.E, l'⟩ w (w'.setCell ⟨p.b, 1, none⟩ v') := by
  have hs := rm_chg w' p.b 1 v'
  have hbx := h.box.of (hc.block p.b h.box.lt (fun hm => h.nt _ (Option.mem_toList.1 hm) rfl))
  have hvb : ∀ k, v'.ownBlock = some k → p.b ≠ k ∧ p.ev.ownBlock ≠ some k := fun k hk => by
    rcases hn k hk with e | e
    · exact ⟨h.nt k e, fun e2 => (h.ne k e2).2 e⟩
    · exact ⟨fun e2 => by have := h.box.lt; omega, fun e2 => by have := h.e.lt k e2; omega⟩
  refine ⟨rfl, ⟨hbx.set 1 v', ?_, hv.of fun k hk hl => hs.block k hl (by simpa using Ne.symm (hvb k hk).1), fun k hk => ⟨(h.ne k hk).1, fun e => (hvb k e).2 hk⟩, fun k hk => (hvb k hk).1⟩, ?_, fun k hk => ?_⟩
  · refine h.e.of fun k hk hl => ?_
    rw [hs.block k (Nat.lt_of_lt_of_le hl hc.size) (by simpa using Ne.symm (h.ne k hk).1), hc.block k hl (fun hm => (h.ne k hk).2 (Option.mem_toList.1 hm))]
  · refine (hc.mono (fun k hk => fp_mem.2 (.inr (.inr (Option.mem_toList.1 hk))))).trans (hs.mono (fun k hk => ?_))
    rw [List.mem_singleton] at hk
    exact fp_mem.2 (.inl hk)
  · rcases fp_mem.1 hk with hk | hk | hk
    · exact .inl (fp_mem.2 (.inl hk))
    · exact .inl (fp_mem.2 (.inr (.inl hk)))
    · rcases hn k hk with e | e
      · exact .inl (fp_mem.2 (.inr (.inr e)))
      · exact .inr e
theorem RmAt.toT {v' : Value} {l' : List Th} (h : RmAt w p G) (hc : Chg p.tv.ownBlock.toList w w') (hv : Tgs w' v' l') (hn : ∀ k, v'.ownBlock = some k → p.tv.ownBlock = some k ∨ w.heap.size ≤ k) : RmTo p ⟨G.E, l'⟩ w (w'.setCell ⟨p.b, 1, none⟩ v') :=
  (h.atT hc hv hn).to
end
end Go.Proofs.YteimpebfenpifaaGreatDoor
