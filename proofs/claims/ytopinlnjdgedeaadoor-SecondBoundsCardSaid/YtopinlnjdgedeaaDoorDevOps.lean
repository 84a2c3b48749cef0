/-
  Devices as plain data: one store, the waiting writes in another row; 'append' of a write.
-/
import Derived.Test.YtopinlnjdgedeaaDoorMg4
import Derived.Deep.RegionLaw
import Derived.Test.YtopinlnjdgedeaaDoorMg0
namespace Go.Proofs.YtopinlnjdgedeaaDoor
open Go.RowKit

theorem infoWr : (Tryd.prog.info? 86).map (fun i => (i.zero, i.size, i.bytes)) = some (some (.agg #[.int .i64 0, .int .i64 0, .string ⟨#[]⟩]), 3, 32) := by kernel_rfl
/-- The value v is a slice of the call's own that holds the writes l. -/
def Wrs (w : World) (v : Value) (l : List WrD) : Prop := w.ownsRow 0 86 3 v l.length (l.flatMap WrV)
theorem wrV_len (x : WrD) : (WrV x).length = 3 := rfl
theorem wrV_one (x : WrD) : ∀ u ∈ WrV x, u.oneCell' = true := by
  intro u hu
  simp [WrV] at hu
  rcases hu with rfl | rfl | rfl <;> rfl
theorem Wrs.lt {w : World} {v : Value} {l : List WrD} (h : Wrs w v l) (k : Nat) (hk : v.ownBlock = some k) : k < w.heap.size := ownsRow_lt h k hk
theorem Wrs.of {w w' : World} {v : Value} {l : List WrD} (h : Wrs w v l) (hb : ∀ k, v.ownBlock = some k → k < w.heap.size → w'.heap[k]? = w.heap[k]?) : Wrs w' v l := ownsRow_of h hb
theorem Wrs.chg {S : List Nat} {w w' : World} {v : Value} {l : List WrD} (h : Wrs w v l) (hc : Chg S w w') (hs : ∀ k, v.ownBlock = some k → k ∉ S) : Wrs w' v l := h.of fun k hk hlt => hc.block k hlt (hs k hk)
theorem Wrs.below {n : Nat} {w w' : World} {v : Value} {l : List WrD} (h : Wrs w v l) (hb : Below n w w') (hn : w.heap.size ≤ n) : Wrs w' v l := h.of fun k _ hlt => hb.block k (Nat.lt_of_lt_of_le hlt hn)
/-- The row's form, and its cells. -/
theorem Wrs.view {w : World} {v : Value} {l : List WrD} (h : Wrs w v l) : (v = .slice none 0 0 ∧ l = []) ∨ ∃ g cap, v = .slice (some ⟨g, 0, none⟩) l.length cap ∧ g < w.heap.size ∧ l.length ≤ cap ∧ cap ≤ maxLen := by
  rcases h.2 with ⟨rfl, h0⟩ | ⟨g, cap, cur, rfl, hg, hh, hn, hm, _⟩
  · exact .inl ⟨rfl, List.eq_nil_of_length_eq_zero h0⟩
  · exact .inr ⟨g, cap, rfl, lt_of_block hh, hn, hm⟩
theorem Wrs.form {w : World} {v : Value} {l : List WrD} (h : Wrs w v l) : ∃ a cap, v = .slice a l.length cap ∧ (0 < l.length → ∃ g, a = some ⟨g, 0, none⟩) := by
  rcases h.view with ⟨rfl, rfl⟩ | ⟨g, cap, rfl, _⟩
  · exact ⟨none, 0, rfl, fun h => absurd h (by simp)⟩
  · exact ⟨some ⟨g, 0, none⟩, cap, rfl, fun _ => ⟨g, rfl⟩⟩
theorem Wrs.get {w : World} {g cap : Nat} {l : List WrD} (h : Wrs w (.slice (some ⟨g, 0, none⟩) l.length cap) l) (i : Nat) (x : WrD) (hx : l[i]? = some x) :
    w.cell? ⟨g, i * 3, none⟩ = some (.int .i64 x.1.1) ∧ w.cell? ⟨g, i * 3 + 1, none⟩ = some (.int .i64 x.1.2) ∧ w.cell? ⟨g, i * 3 + 2, none⟩ = some (.string x.2) := by
  have hi : i < l.length := (List.getElem?_eq_some_iff.1 hx).1
  refine ⟨?_, ?_, ?_⟩
  · have := flat_get WrV 3 wrV_len l i x hx 0 (by decide)
    rw [World.ownsRow.cellAt h (i * 3) (by omega)]; exact this
  · have := flat_get WrV 3 wrV_len l i x hx 1 (by decide)
    rw [World.ownsRow.cellAt h (i * 3 + 1) (by omega)]; exact this
  · have := flat_get WrV 3 wrV_len l i x hx 2 (by decide)
    rw [World.ownsRow.cellAt h (i * 3 + 2) (by omega)]; exact this
theorem Wrs.free {w : World} {g cap : Nat} {l : List WrD} (h : Wrs w (.slice (some ⟨g, 0, none⟩) l.length cap) l) (j : Nat) : w.frozen? ⟨g, j, none⟩ = false := World.ownsRow.frozenAt h j

theorem chg_grown {w w' : World} {r : Option Nat} (h : w.grownBy w' r) : Chg r.toList w w' :=
  ⟨h.os, h.tape, h.output, h.size, fun k hk hn => h.block k hk (fun e => hn (by rw [← e]; simp))⟩

/-- 'append(out, x)' of one write, at a step of a region. -/
theorem step_wr_push {ops : Array Oper} {o : Oper} {a : Act} {W : World} {K : Act → World → Prop} {Q : Exit → Act → World → Prop} {E : Prop} (hgd : o.guard = none) (s x : Operand)
    (ho : o.op = .call { callee := .builtin .append, args := #[s, x], argTypes := #[57, 57] })
    (v : Value) (l : List WrD) (hs : a.eval s = v) (hb : Wrs W v l)
    (ad : Addr) (c : Nat) (p : WrD) (hx : a.eval x = .slice (some ad) 1 c) (hcell : ∀ j u, (WrV p)[j]? = some u → W.cell? (ad.add j) = some u)
    (hbytes : l.length ≤ 100000)
    (h : ∀ g cap w', Wrs w' (.slice (some ⟨g, 0, none⟩) (l.length + 1) cap) (l ++ [p]) → Chg v.ownBlock.toList W w' → (v.ownBlock = some g ∨ g = W.heap.size) → K (a.put o.dst (.slice (some ⟨g, 0, none⟩) (l.length + 1) cap)) w') :
    if Region.wanted o (yielded ops a.tmps) = true then Oper.wp Tryd.prog o a W K Q else E := by
  have hw : Region.wanted o (yielded ops a.tmps) = true := by simp [Region.wanted, hgd]
  rw [if_pos hw]
  obtain ⟨i0, hi, hz0, hz1, hz2⟩ := info_parts infoWr
  obtain ⟨v', w', hr, hown, hg, _, hob⟩ := run_append_own_at (P := Tryd.prog) W 0 57 o.type 86 i0 (.agg #[.int .i64 0, .int .i64 0, .string ⟨#[]⟩]) 3 32 Tryd.underlying57 hi hz0 hz1 hz2 rfl (by decide) v l.length _ hb ad 1 c (WrV p) rfl hcell (wrV_one p) (by unfold maxLen; omega) (by omega) (Nat.zero_le _)
  have hW : Wrs w' v' (l ++ [p]) := by
    unfold Wrs
    rw [List.flatMap_append, List.length_append]
    exact hown
  obtain ⟨g, cap, e, _⟩ : ∃ g cap, v' = .slice (some ⟨g, 0, none⟩) (l.length + 1) cap ∧ True := by
    rcases hown.2 with ⟨_, h0⟩ | ⟨g, cap, _, e, _⟩
    · omega
    · exact ⟨g, cap, e, trivial⟩
  subst e
  unfold Oper.wp execOp
  simp only [ho, resolve, invoke, builtin, Sem.run_bind, Sem.run_pure, Result.andThen_ok, List.map_toArray, List.map_cons, List.map_nil, hs, hx, hr]
  refine h g cap w' hW (chg_grown hg) ?_
  rcases hob with h1 | h1
  · exact .inl (h1.symm.trans rfl)
  · right
    simpa [Value.ownBlock] using h1

theorem wp_wr_push {ops : Array Oper} {rest : List Oper} {o : Oper} {a : Act} {Q : Exit → Act → World → Prop} (W : World) (hgd : o.guard = none) (s x : Operand)
    (ho : o.op = .call { callee := .builtin .append, args := #[s, x], argTypes := #[57, 57] })
    (v : Value) (l : List WrD) (hs : a.eval s = v) (hb : Wrs W v l)
    (ad : Addr) (c : Nat) (p : WrD) (hx : a.eval x = .slice (some ad) 1 c) (hcell : ∀ j u, (WrV p)[j]? = some u → W.cell? (ad.add j) = some u)
    (hbytes : l.length ≤ 100000)
    (h : ∀ g cap w', Wrs w' (.slice (some ⟨g, 0, none⟩) (l.length + 1) cap) (l ++ [p]) → Chg v.ownBlock.toList W w' → (v.ownBlock = some g ∨ g = W.heap.size) → wpList Tryd.prog ops Q rest (a.put o.dst (.slice (some ⟨g, 0, none⟩) (l.length + 1) cap)) w') : wpList Tryd.prog ops Q (o :: rest) a W := by
  refine wpList_plain hgd fun K hK => ?_
  have := step_wr_push (ops := ops) (K := K) (Q := Q) (E := True) hgd s x ho v l hs hb ad c p hx hcell hbytes (fun g cap w' h1 h2 h3 => hK _ _ (h g cap w' h1 h2 h3))
  rw [if_pos (by simp [Region.wanted, hgd])] at this
  exact this

def setTell (d : DevD) (l : Int × Int) (s : ByteArray) : DevD :=
  if l.1 = 0 then { d with s0 := { d.s0 with tells := d.s0.tells.set l.2.toNat s } } else { d with s1 := { d.s1 with tells := d.s1.tells.set l.2.toNat s } }
def setHas (d : DevD) (l : Int × Int) (s : ByteArray) : DevD :=
  if l.1 = 0 then { d with s0 := { d.s0 with has := d.s0.has.set l.2.toNat s } } else { d with s1 := { d.s1 with has := d.s1.has.set l.2.toNat s } }
def DevP.tb (p : DevP) (dev : Int) : Nat := if dev = 0 then p.t0 else p.t1
def DevP.hb (p : DevP) (dev : Int) : Nat := if dev = 0 then p.h0 else p.h1

theorem size_setTell (d : DevD) (l : Int × Int) (s : ByteArray) (dev : Int) : devSize (setTell d l s) dev = devSize d dev := by
  by_cases h : l.1 = 0 <;> simp [setTell, devSize, h]
theorem size_setHas (d : DevD) (l : Int × Int) (s : ByteArray) (dev : Int) : devSize (setHas d l s) dev = devSize d dev := by
  by_cases h : l.1 = 0 <;> simp [setHas, devSize, h]

theorem DevAt.ne {w : World} {p : DevP} {d : DevD} (h : DevAt w p d) : p.b ≠ p.h0 ∧ p.b ≠ p.t0 ∧ p.b ≠ p.h1 ∧ p.b ≠ p.t1 ∧ p.h0 ≠ p.t0 ∧ p.h0 ≠ p.h1 ∧ p.h0 ≠ p.t1 ∧ p.t0 ≠ p.h1 ∧ p.t0 ≠ p.t1 ∧ p.h1 ≠ p.t1 ∧
    ∀ k, p.wv.ownBlock = some k → p.b ≠ k ∧ p.h0 ≠ k ∧ p.t0 ≠ k ∧ p.h1 ≠ k ∧ p.t1 ≠ k := by
  have hn := h.nd
  simp only [DevP.fp, List.cons_append, List.nil_append, List.nodup_cons, List.mem_cons, not_or, Option.mem_toList] at hn
  obtain ⟨⟨a1, a2, a3, a4, a5⟩, ⟨b2, b3, b4, b5⟩, ⟨c3, c4, c5⟩, ⟨d4, d5⟩, e5, _⟩ := hn
  exact ⟨a1, a2, a3, a4, b2, b3, b4, c3, c4, d4, fun k hk => ⟨fun e => a5 (e ▸ hk), fun e => b5 (e ▸ hk), fun e => c5 (e ▸ hk), fun e => d5 (e ▸ hk), fun e => e5 (e ▸ hk)⟩⟩

theorem DevAt.lt {w : World} {p : DevP} {d : DevD} (h : DevAt w p d) : ∀ k ∈ p.fp, k < w.heap.size := by
  intro k hk
  simp only [DevP.fp, List.mem_append, List.mem_cons, List.not_mem_nil, or_false, Option.mem_toList] at hk
  rcases hk with (rfl | rfl | rfl | rfl | rfl) | h1
  · exact h.box.lt
  · exact h.h0.lt
  · exact h.t0.lt
  · exact h.h1.lt
  · exact h.t1.lt
  · exact ownsRow_lt h.wt k h1

/-- A store into another block. -/
theorem chg_set (w : World) (b j : Nat) (v : Value) : Chg [b] w (w.setCell ⟨b, j, none⟩ v) := Chg.only (Only.set b j w v)

theorem DevAt.setTell {w : World} {p : DevP} {d : DevD} (h : DevAt w p d) (l : Int × Int) (hl : l.1 = 0 ∨ l.1 = 1) (s : ByteArray) : DevAt (w.setCell ⟨p.tb l.1, l.2.toNat, none⟩ (.string s)) p (setTell d l s) := by
  have hc := chg_set w (p.tb l.1) l.2.toNat (.string s)
  obtain ⟨n1, n2, n3, n4, n5, n6, n7, n8, n9, n10, n11⟩ := h.ne
  have hw : ∀ x ∈ d.waits, locOk (Go.Proofs.YtopinlnjdgedeaaDoor.setTell d l s) x.1 := fun x hx => by have := h.wok x hx; unfold locOk at *; rw [size_setTell]; exact this
  rcases hl with e | e
  · have e1 : p.tb l.1 = p.t0 := by unfold DevP.tb; rw [if_pos e]
    have e2 : Go.Proofs.YtopinlnjdgedeaaDoor.setTell d l s = { d with s0 := { d.s0 with tells := d.s0.tells.set l.2.toNat s } } := by unfold Go.Proofs.YtopinlnjdgedeaaDoor.setTell; rw [if_pos e]
    rw [e2] at hw ⊢
    rw [e1] at hc ⊢
    have hb := h.box.of (hc.block p.b h.box.lt (by simpa using n2))
    exact ⟨by simpa using hb, h.h0.chg hc (by simpa using n5), h.t0.set _ _, h.h1.chg hc (by simpa using Ne.symm n8), h.t1.chg hc (by simpa using Ne.symm n9),
      ownsRow_of h.wt fun k hk hlt => hc.block k hlt (by simpa using Ne.symm (n11 k hk).2.2.1), h.nd, by simpa using h.l0, h.l1, h.n0, h.n1, hw⟩
  · have e0 : ¬ l.1 = 0 := by omega
    have e1 : p.tb l.1 = p.t1 := by unfold DevP.tb; rw [if_neg e0]
    have e2 : Go.Proofs.YtopinlnjdgedeaaDoor.setTell d l s = { d with s1 := { d.s1 with tells := d.s1.tells.set l.2.toNat s } } := by unfold Go.Proofs.YtopinlnjdgedeaaDoor.setTell; rw [if_neg e0]
    rw [e2] at hw ⊢
    rw [e1] at hc ⊢
    have hb := h.box.of (hc.block p.b h.box.lt (by simpa using n4))
    exact ⟨by simpa using hb, h.h0.chg hc (by simpa using n7), h.t0.chg hc (by simpa using n9), h.h1.chg hc (by simpa using n10), h.t1.set _ _,
      ownsRow_of h.wt fun k hk hlt => hc.block k hlt (by simpa using Ne.symm (n11 k hk).2.2.2.2), h.nd, h.l0, by simpa using h.l1, h.n0, h.n1, hw⟩

theorem DevAt.setHas {w : World} {p : DevP} {d : DevD} (h : DevAt w p d) (l : Int × Int) (hl : l.1 = 0 ∨ l.1 = 1) (s : ByteArray) : DevAt (w.setCell ⟨p.hb l.1, l.2.toNat, none⟩ (.string s)) p (setHas d l s) := by
  have hc := chg_set w (p.hb l.1) l.2.toNat (.string s)
  obtain ⟨n1, n2, n3, n4, n5, n6, n7, n8, n9, n10, n11⟩ := h.ne
  have hw : ∀ x ∈ d.waits, locOk (Go.Proofs.YtopinlnjdgedeaaDoor.setHas d l s) x.1 := fun x hx => by have := h.wok x hx; unfold locOk at *; rw [size_setHas]; exact this
  rcases hl with e | e
  · have e1 : p.hb l.1 = p.h0 := by unfold DevP.hb; rw [if_pos e]
    have e2 : Go.Proofs.YtopinlnjdgedeaaDoor.setHas d l s = { d with s0 := { d.s0 with has := d.s0.has.set l.2.toNat s } } := by unfold Go.Proofs.YtopinlnjdgedeaaDoor.setHas; rw [if_pos e]
    rw [e2] at hw ⊢
    rw [e1] at hc ⊢
    have hb := h.box.of (hc.block p.b h.box.lt (by simpa using n1))
    exact ⟨by simpa using hb, h.h0.set _ _, h.t0.chg hc (by simpa using Ne.symm n5), h.h1.chg hc (by simpa using Ne.symm n6), h.t1.chg hc (by simpa using Ne.symm n7),
      ownsRow_of h.wt fun k hk hlt => hc.block k hlt (by simpa using Ne.symm (n11 k hk).2.1), h.nd, by simpa using h.l0, h.l1, by simpa using h.n0, h.n1, hw⟩
  · have e0 : ¬ l.1 = 0 := by omega
    have e1 : p.hb l.1 = p.h1 := by unfold DevP.hb; rw [if_neg e0]
    have e2 : Go.Proofs.YtopinlnjdgedeaaDoor.setHas d l s = { d with s1 := { d.s1 with has := d.s1.has.set l.2.toNat s } } := by unfold Go.Proofs.YtopinlnjdgedeaaDoor.setHas; rw [if_neg e0]
    rw [e2] at hw ⊢
    rw [e1] at hc ⊢
    have hb := h.box.of (hc.block p.b h.box.lt (by simpa using n3))
    exact ⟨by simpa using hb, h.h0.chg hc (by simpa using n6), h.t0.chg hc (by simpa using n8), h.h1.set _ _, h.t1.chg hc (by simpa using Ne.symm n10),
      ownsRow_of h.wt fun k hk hlt => hc.block k hlt (by simpa using Ne.symm (n11 k hk).2.2.2.1), h.nd, h.l0, by simpa using h.l1, h.n0, by simpa using h.n1, hw⟩

/-- The waiting writes lie in a row v' now, and the head's cell says so. -/
theorem DevAt.newWaits {w w1 : World} {p : DevP} {d : DevD} (h : DevAt w p d) (hc : Chg p.wv.ownBlock.toList w w1) {v' : Value} {ws : List WrD} (hr : Wrs w1 v' ws)
    (hv : ∀ k, v'.ownBlock = some k → p.wv.ownBlock = some k ∨ w.heap.size ≤ k) (hok : ∀ x ∈ ws, locOk d x.1) :
    DevAt (w1.setCell ⟨p.b, 6, none⟩ v') { p with wv := v' } { d with waits := ws } ∧ Mv p { p with wv := v' } w (w1.setCell ⟨p.b, 6, none⟩ v') := by
  obtain ⟨n1, n2, n3, n4, n5, n6, n7, n8, n9, n10, n11⟩ := h.ne
  have ha : ∀ k, k < w.heap.size → (∀ j, p.wv.ownBlock = some j → j ≠ k) → k ∉ p.wv.ownBlock.toList := fun k _ hj hm => hj k (by simpa using hm) rfl
  have hB := h.box.of (hc.block p.b h.box.lt (ha _ h.box.lt fun j hj => Ne.symm (n11 j hj).1))
  have s0 := h.h0.chg hc (ha _ h.h0.lt fun j hj => Ne.symm (n11 j hj).2.1)
  have s1 := h.t0.chg hc (ha _ h.t0.lt fun j hj => Ne.symm (n11 j hj).2.2.1)
  have s2 := h.h1.chg hc (ha _ h.h1.lt fun j hj => Ne.symm (n11 j hj).2.2.2.1)
  have s3 := h.t1.chg hc (ha _ h.t1.lt fun j hj => Ne.symm (n11 j hj).2.2.2.2)
  have hcs := chg_set w1 p.b 6 v'
  have hne : ∀ k, v'.ownBlock = some k → p.b ≠ k ∧ p.h0 ≠ k ∧ p.t0 ≠ k ∧ p.h1 ≠ k ∧ p.t1 ≠ k := fun k hk => by
    rcases hv k hk with h1 | h1
    · exact n11 k h1
    · have := h.box.lt; have := h.h0.lt; have := h.t0.lt; have := h.h1.lt; have := h.t1.lt
      exact ⟨by omega, by omega, by omega, by omega, by omega⟩
  refine ⟨⟨by simpa using hB.set 6 v', s0.chg hcs (by simpa using Ne.symm n1), s1.chg hcs (by simpa using Ne.symm n2), s2.chg hcs (by simpa using Ne.symm n3), s3.chg hcs (by simpa using Ne.symm n4),
    Wrs.chg hr hcs (fun k hk => by simpa using Ne.symm (hne k hk).1), ?_, h.l0, h.l1, h.n0, h.n1, hok⟩, ⟨rfl, ?_, ?_⟩⟩
  · have hd := h.nd
    simp only [DevP.fp, List.cons_append, List.nil_append, List.nodup_cons, List.mem_cons, not_or, Option.mem_toList] at hd ⊢
    refine ⟨⟨n1, n2, n3, n4, fun e => (hne _ e).1 rfl⟩, ⟨n5, n6, n7, fun e => (hne _ e).2.1 rfl⟩, ⟨n8, n9, fun e => (hne _ e).2.2.1 rfl⟩, ⟨n10, fun e => (hne _ e).2.2.2.1 rfl⟩, fun e => (hne _ e).2.2.2.2 rfl, ?_⟩
    cases v'.ownBlock <;> simp
  · refine (hc.mono (S' := p.fp) (fun k hk => by simp only [DevP.fp]; exact List.mem_append_right _ hk)).trans (hcs.mono fun k hk => ?_)
    rw [List.mem_singleton] at hk
    simp [DevP.fp, hk]
  · intro k hk
    simp only [DevP.fp, List.mem_append, Option.mem_toList] at hk ⊢
    rcases hk with h1 | h1
    · exact .inl (.inl h1)
    · rcases hv k h1 with h2 | h2
      · exact .inl (.inr h2)
      · exact .inr h2
theorem DevAt.tells0 {w w' : World} {p : DevP} {d : DevD} (h : DevAt w p d) {l : List ByteArray} (hS : Strs w' p.t0 p.ct0 l) (hl : l.length = d.s0.tells.length) (hc : Chg [p.t0] w w') : DevAt w' p { d with s0 := { d.s0 with tells := l } } := by
  obtain ⟨n1, n2, n3, n4, n5, n6, n7, n8, n9, n10, n11⟩ := h.ne
  have hb := h.box.of (hc.block p.b h.box.lt (by simpa using n2))
  have hw : ∀ x ∈ d.waits, locOk { d with s0 := { d.s0 with tells := l } } x.1 := fun x hx => by
    have := h.wok x hx
    unfold locOk devSize at *
    simp only
    simpa [hl] using this
  refine ⟨by simpa [hl] using hb, h.h0.chg hc (by simpa using n5), hS, h.h1.chg hc (by simpa using Ne.symm n8), h.t1.chg hc (by simpa using Ne.symm n9), ownsRow_of h.wt fun k hk hlt => hc.block k hlt (by simpa using Ne.symm (n11 k hk).2.2.1), h.nd, by simpa [hl] using h.l0, h.l1, h.n0, h.n1, hw⟩
theorem DevAt.tells1 {w w' : World} {p : DevP} {d : DevD} (h : DevAt w p d) {l : List ByteArray} (hS : Strs w' p.t1 p.ct1 l) (hl : l.length = d.s1.tells.length) (hc : Chg [p.t1] w w') : DevAt w' p { d with s1 := { d.s1 with tells := l } } := by
  obtain ⟨n1, n2, n3, n4, n5, n6, n7, n8, n9, n10, n11⟩ := h.ne
  have hb := h.box.of (hc.block p.b h.box.lt (by simpa using n4))
  have hw : ∀ x ∈ d.waits, locOk { d with s1 := { d.s1 with tells := l } } x.1 := fun x hx => by
    have := h.wok x hx
    unfold locOk devSize at *
    simp only
    simpa [hl] using this
  refine ⟨by simpa [hl] using hb, h.h0.chg hc (by simpa using n7), h.t0.chg hc (by simpa using n9), h.h1.chg hc (by simpa using n10), hS, ownsRow_of h.wt fun k hk hlt => hc.block k hlt (by simpa using Ne.symm (n11 k hk).2.2.2.2), h.nd, h.l0, by simpa [hl] using h.l1, h.n0, h.n1, hw⟩
theorem DevAt.has0 {w w' : World} {p : DevP} {d : DevD} (h : DevAt w p d) {l : List ByteArray} (hS : Strs w' p.h0 p.ch0 l) (hl : l.length = d.s0.has.length) (hc : Chg [p.h0] w w') : DevAt w' p { d with s0 := { d.s0 with has := l } } := by
  obtain ⟨n1, n2, n3, n4, n5, n6, n7, n8, n9, n10, n11⟩ := h.ne
  have hb := h.box.of (hc.block p.b h.box.lt (by simpa using n1))
  have hw : ∀ x ∈ d.waits, locOk { d with s0 := { d.s0 with has := l } } x.1 := fun x hx => by
    have := h.wok x hx
    unfold locOk devSize at *
    simp only
    simpa [hl] using this
  refine ⟨by simpa [hl] using hb, hS, h.t0.chg hc (by simpa using Ne.symm n5), h.h1.chg hc (by simpa using Ne.symm n6), h.t1.chg hc (by simpa using Ne.symm n7), ownsRow_of h.wt fun k hk hlt => hc.block k hlt (by simpa using Ne.symm (n11 k hk).2.1), h.nd, by simpa [hl] using h.l0, h.l1, by simpa [hl] using h.n0, h.n1, hw⟩
theorem DevAt.has1 {w w' : World} {p : DevP} {d : DevD} (h : DevAt w p d) {l : List ByteArray} (hS : Strs w' p.h1 p.ch1 l) (hl : l.length = d.s1.has.length) (hc : Chg [p.h1] w w') : DevAt w' p { d with s1 := { d.s1 with has := l } } := by
  obtain ⟨n1, n2, n3, n4, n5, n6, n7, n8, n9, n10, n11⟩ := h.ne
  have hb := h.box.of (hc.block p.b h.box.lt (by simpa using n3))
  have hw : ∀ x ∈ d.waits, locOk { d with s1 := { d.s1 with has := l } } x.1 := fun x hx => by
    have := h.wok x hx
    unfold locOk devSize at *
    simp only
    simpa [hl] using this
  refine ⟨by simpa [hl] using hb, h.h0.chg hc (by simpa using n6), h.t0.chg hc (by simpa using n8), hS, h.t1.chg hc (by simpa using Ne.symm n10), ownsRow_of h.wt fun k hk hlt => hc.block k hlt (by simpa using Ne.symm (n11 k hk).2.2.2.1), h.nd, h.l0, by simpa [hl] using h.l1, h.n0, by simpa [hl] using h.n1, hw⟩
theorem DevAt.mvTell {w : World} {p : DevP} {d : DevD} (_h : DevAt w p d) (dev : Int) (j : Nat) (v : Value) : Mv p p w (w.setCell ⟨p.tb dev, j, none⟩ v) := by
  refine ⟨rfl, (chg_set w _ j v).mono fun k hk => ?_, fun k hk => .inl hk⟩
  rw [List.mem_singleton] at hk
  subst hk
  unfold DevP.tb
  split <;> simp [DevP.fp]
theorem DevAt.mvHas {w : World} {p : DevP} {d : DevD} (_h : DevAt w p d) (dev : Int) (j : Nat) (v : Value) : Mv p p w (w.setCell ⟨p.hb dev, j, none⟩ v) := by
  refine ⟨rfl, (chg_set w _ j v).mono fun k hk => ?_, fun k hk => .inl hk⟩
  rw [List.mem_singleton] at hk
  subst hk
  unfold DevP.hb
  split <;> simp [DevP.fp]
theorem Mv.ofChg {p p' : DevP} {w w1 w2 : World} (hc : Chg [] w w1) (h : Mv p p' w1 w2) : Mv p p' w w2 :=
  ⟨h.b, (hc.mono (S' := p.fp) (fun _ hk => by cases hk)).trans h.chg, fun k hk => by
    rcases h.fp k hk with h1 | h1
    · exact .inl h1
    · exact .inr (Nat.le_trans hc.size h1)⟩
theorem Mv.ofChg' {p p' : DevP} {w w1 w2 : World} (h : Mv p p' w1 w2) (hc : Chg p.fp w w1) : Mv p p' w w2 :=
  ⟨h.b, hc.trans h.chg, fun k hk => by
    rcases h.fp k hk with h1 | h1
    · exact .inl h1
    · exact .inr (Nat.le_trans hc.size h1)⟩
theorem DevTo.ofChg {p : DevP} {d' : DevD} {w w1 w2 : World} (hc : Chg [] w w1) (h : DevTo p d' w1 w2) : DevTo p d' w w2 := by
  obtain ⟨p', h1, h2⟩ := h
  exact ⟨p', h1, h2.ofChg hc⟩
theorem DevTo.drew {p : DevP} {d' : DevD} {w w' : World} (h : DevTo p d' w w') : DevTo p d' w w'.drew := by
  obtain ⟨p', h1, h2⟩ := h
  exact ⟨p', h1.drewN 1, ⟨h2.b, h2.chg.drew, h2.fp⟩⟩
theorem Chg.nil {w w' : World} {n : Nat} (h : Below n w w') (hn : w.heap.size ≤ n) : Chg [] w w' := Chg.of h hn
end Go.Proofs.YtopinlnjdgedeaaDoor
