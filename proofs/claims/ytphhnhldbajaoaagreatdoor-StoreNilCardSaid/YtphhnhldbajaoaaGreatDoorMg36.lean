/-
  Texts put together: StL, StM, OwnRows, PtrDec.
-/
import Derived.Test.YtphhnhldbajaoaaGreatDoorMg24
import Derived.Test.YtphhnhldbajaoaaGreatDoorMg33
import Derived.Test.YtphhnhldbajaoaaGreatDoorArcM
import Derived.Test.YtphhnhldbajaoaaGreatDoorArcBnd
import Derived.Test.YtphhnhldbajaoaaGreatDoorMg35
import Derived.Test.YtphhnhldbajaoaaGreatDoorMg11
import Derived.Test.YtphhnhldbajaoaaGreatDoorMg0
import Derived.Deep.RegionLaw
import Derived.Maps.AppendAt
import Derived.Test.YtphhnhldbajaoaaGreatDoorMg12
import Derived.Test.YtphhnhldbajaoaaGreatDoorMg27
import Derived.Laws.ResultCell
import Derived.Deep.QuietTactic
namespace Go.Proofs.YtphhnhldbajaoaaGreatDoor
open Go Go.RowKit Go.ChangeShapes Go.WideShapes Go.ChangeAt

/-- What a store is. -/
structure StD where
  d : DevD
  pol : PolD
  txg : Int
  u0 : List Bool
  u1 : List Bool
  a : Option ArcD
  L : List (ByteArray × ByteArray)
  c : Option SecD
  h0 : Int
  h1 : Int
  h2 : Int
theorem eta_a {σ : StD} {a : Option ArcD} (h : σ.a = a) : ({ σ with a := a } : StD) = σ := by subst h; rfl
theorem eta_c {σ : StD} {c : Option SecD} (h : σ.c = c) : ({ σ with c := c } : StD) = σ := by subst h; rfl
theorem eta_dc {σ : StD} {d : DevD} {c : Option SecD} (h1 : σ.d = d) (h : σ.c = c) : ({ σ with d := d, c := c } : StD) = σ := by subst h; subst h1; rfl
/-- Where its parts are. -/
structure StP where
  db : Nat
  v0 : Value
  v1 : Value
  av : Value
  m : Nat
  cv : Value
def stV (p : StP) (σ : StD) : StoV := ⟨p.db, σ.pol, σ.txg, p.v0, p.v1, p.av, p.m, p.cv, σ.h0, σ.h1, σ.h2⟩
/-- Free runs of the call's own. -/
def RunF (v : Value) (l : List (Int × Int)) (G : List Nat) (w : World) : Prop := G = v.ownBlock.toList ∧ ∃ base, PrsS 139 w base v l
theorem fixed_run (v : Value) (l : List (Int × Int)) : Fixed (RunF v l) := by
  refine ⟨?_, ?_⟩
  · rintro G S w1 w2 ⟨rfl, base, h⟩ hc hn
    exact ⟨rfl, base, ownsRow_of h fun k hk hlt => hc.block k hlt (hn k (by rw [Option.mem_toList]; exact hk))⟩
  · rintro G w ⟨rfl, base, h⟩ k hk
    rw [Option.mem_toList] at hk
    exact (World.ownsRow.lt h k hk).2
/-- A cache of keys, or none. -/
def ArcO (v : Value) : Option ArcD → List Nat → World → Prop
  | none => fun G _ => v = .pointer none ∧ G = []
  | some y => fun G w => ∃ b, v = .pointer (some ⟨b, 0, none⟩) ∧ ArcF b y G w
theorem fixed_arcO (v : Value) : ∀ a : Option ArcD, Fixed (ArcO v a)
  | none => ⟨fun _ _ _ _ h _ _ => h, fun G _ h k hk => by rw [h.2] at hk; cases hk⟩
  | some y => ⟨fun G S w1 w2 ⟨b, e, h⟩ hc hn => ⟨b, e, (fixed_arc b y).keep _ _ _ _ h hc hn⟩, fun G w ⟨b, _, h⟩ => (fixed_arc b y).lt G w h⟩
def MapF (m : Nat) (L : List (ByteArray × ByteArray)) (G : List Nat) (w : World) : Prop := G = [m] ∧ MapAt BlS w m L
theorem fixed_map (m : Nat) (L : List (ByteArray × ByteArray)) : Fixed (MapF m L) := by
  refine ⟨?_, ?_⟩
  · rintro G S w1 w2 ⟨rfl, h⟩ hc hn
    exact ⟨rfl, h.chg hc (hn m (by simp))⟩
  · rintro G w ⟨rfl, h⟩ k hk
    rw [List.mem_singleton] at hk
    rw [hk]; exact h.lt
/-- The second cache, or none. -/
def SecO (v : Value) (db : Nat) : Option SecD → List Nat → World → Prop
  | none => fun G _ => v = .pointer none ∧ G = []
  | some y => fun G w => ∃ s, v = .pointer (some ⟨s, 0, none⟩) ∧ ScF s db y G w
theorem fixed_secO (v : Value) (db : Nat) : ∀ c : Option SecD, Fixed (SecO v db c)
  | none => ⟨fun _ _ _ _ h _ _ => h, fun G _ h k hk => by rw [h.2] at hk; cases hk⟩
  | some y => ⟨fun G S w1 w2 ⟨b, e, h⟩ hc hn => ⟨b, e, (fixed_sc b db y).keep _ _ _ _ h hc hn⟩, fun G w ⟨b, _, h⟩ => (fixed_sc b db y).lt G w h⟩
/-- All that a store owns, and the devices. -/
abbrev stL (s : Nat) (p : StP) (σ : StD) : List (List Nat → World → Prop) := [BoxP s 93 (stV p σ).cells, RunF p.v0 (ofL σ.u0), RunF p.v1 (ofL σ.u1), ArcO p.av σ.a, MapF p.m σ.L, SecO p.cv p.db σ.c, DevF p.db σ.d]
theorem fixed_stL (s : Nat) (p : StP) (σ : StD) : AllF (stL s p σ) := .cons (fixed_box _ _ _) (.cons (fixed_run _ _) (.cons (fixed_run _ _) (.cons (fixed_arcO _ _) (.cons (fixed_map _ _) (.cons (fixed_secO _ _ _) (.cons (fixed_dev _ _) .nil))))))
/-- What is asked of what a store holds; few: how many writes wait at the most, and texts are kept. -/
structure WfS (few : Nat) (σ : StD) : Prop where
  sz : ∀ t, devSize σ.d t ≤ 512
  pol : okPol σ.pol = true
  txg : 0 ≤ σ.txg ∧ σ.txg ≤ 1099511627776
  r0 : σ.u0.length = devSize σ.d 0
  r1 : σ.u1.length = devSize σ.d 1
  arc : ∀ y, σ.a = some y → OkA y ∧ InvA y ∧ BndA y ∧ ∀ k, 1 ≤ tK y k → k.size ≤ 64
  tiny : Tiny σ.d
  waits : σ.d.waits.length ≤ few
  kept : σ.L.length ≤ few
  hits : (0 ≤ σ.h0 ∧ σ.h0 ≤ few) ∧ (0 ≤ σ.h1 ∧ σ.h1 ≤ few) ∧ (0 ≤ σ.h2 ∧ σ.h2 ≤ few)
  sec : ∀ x, σ.c = some x → x.f ≤ 512 ∧ x.n ≤ 512 ∧ 2 ≤ x.n ∧ x.hand < roomN x.n ∧ x.f + x.n ≤ 512 ∧ x.e.length ≤ few ∧ ∀ k y, findS x.e k = some y → y.pos = k ∧ 0 ≤ k ∧ k < 1000
theorem bnd_len {y : ArcD} (h1 : OkA y) (h2 : BndA y) : y.len ≤ 128 := by
  have h3 := h1.2.1
  have h4 := h2.2.2
  omega
section
variable {B : Nat} {l : List (List Nat → World → Prop)} {s : Nat} {p : StP} {σ : StD} {w : World}
/-- The parts ahead. -/
theorem sto_box (h : Own B (stL s p σ ++ l) w) : StoB w s (stV p σ) := h.boxed
theorem sto_all (hl : AllF l) : AllF (stL s p σ ++ l) := (fixed_stL s p σ).append hl
/-- The devices, beside the rest. -/
theorem sto_one (h : Own B (stL s p σ ++ l) w) : One B (Alls ([BoxP s 93 (stV p σ).cells, RunF p.v0 (ofL σ.u0), RunF p.v1 (ofL σ.u1), ArcO p.av σ.a, MapF p.m σ.L, SecO p.cv p.db σ.c] ++ l)) p.db σ.d w :=
  (h.pick [BoxP s 93 (stV p σ).cells, RunF p.v0 (ofL σ.u0), RunF p.v1 (ofL σ.u1), ArcO p.av σ.a, MapF p.m σ.L, SecO p.cv p.db σ.c]).one
theorem sto_fix (hl : AllF l) : Fixed (Alls ([BoxP s 93 (stV p σ).cells, RunF p.v0 (ofL σ.u0), RunF p.v1 (ofL σ.u1), ArcO p.av σ.a, MapF p.m σ.L, SecO p.cv p.db σ.c] ++ l)) :=
  fixed_alls (.append (.cons (fixed_box _ _ _) (.cons (fixed_run _ _) (.cons (fixed_run _ _) (.cons (fixed_arcO _ _) (.cons (fixed_map _ _) (.cons (fixed_secO _ _ _) .nil)))))) hl)
theorem sto_map (h : Own B (stL s p σ ++ l) w) : MapAt BlS w p.m σ.L := by
  obtain ⟨F, h1, _⟩ := (h.pick [BoxP s 93 (stV p σ).cells, RunF p.v0 (ofL σ.u0), RunF p.v1 (ofL σ.u1), ArcO p.av σ.a]).fst
  exact h1.2
theorem sto_map_to (hl : AllF l) (h : Own B (stL s p σ ++ l) w) {w' : World} {L' : List (ByteArray × ByteArray)} (hc : Chg [p.m] w w') (hm : MapAt BlS w' p.m L') : Own B (stL s p { σ with L := L' } ++ l) w' ∧ Below B w w' := by
  obtain ⟨h1, h2⟩ := (h.pick [BoxP s 93 (stV p σ).cells, RunF p.v0 (ofL σ.u0), RunF p.v1 (ofL σ.u1), ArcO p.av σ.a]).onto (Q' := MapF p.m L') (.append (.cons (fixed_box _ _ _) (.cons (fixed_run _ _) (.cons (fixed_run _ _) (.cons (fixed_arcO _ _) .nil)))) (.cons (fixed_secO _ _ _) (.cons (fixed_dev _ _) hl))) (w' := w') fun F hF => ⟨[p.m], ⟨rfl, hm⟩, by rw [hF.1]; exact hc, fun k hk => .inl (by rw [hF.1]; exact hk)⟩
  exact ⟨h1.back [BoxP s 93 (stV p σ).cells, RunF p.v0 (ofL σ.u0), RunF p.v1 (ofL σ.u1), ArcO p.av σ.a], h2⟩
theorem sto_runs (h : Own B (stL s p σ ++ l) w) : (∃ base, PrsS 139 w base p.v0 (ofL σ.u0)) ∧ ∃ base, PrsS 139 w base p.v1 (ofL σ.u1) := by
  obtain ⟨F, h1, _⟩ := (h.pick [BoxP s 93 (stV p σ).cells]).fst
  obtain ⟨G, h2, _⟩ := (h.pick [BoxP s 93 (stV p σ).cells, RunF p.v0 (ofL σ.u0)]).fst
  exact ⟨h1.2, h2.2⟩
/-- Asked for a key. -/
def askO : Option ArcD → ByteArray → Option ArcD × Bool × ByteArray
  | none, _ => (none, false, empA)
  | some y, k => (some (askA y k).1, (askA y k).2.1, (askA y k).2.2)
def hasO : Option ArcD → ByteArray → Bool
  | none, _ => false
  | some y, k => hasA y 2 k || hasA y 3 k
theorem sto_ask {few : Nat} (hl : AllF l) (h : Own B (stL s p σ ++ l) w) (hw : WfS few σ) (k : ByteArray) : Calls Tryz.prog 87 #[p.av, .string k] w fun e w' => e = .returned (.tuple #[.bool (askO σ.a k).2.1, .string (askO σ.a k).2.2]) ∧ Own B (stL s p { σ with a := (askO σ.a k).1 } ++ l) w' ∧ Below B w w' := by
  have hf : AllF ([BoxP s 93 (stV p σ).cells, RunF p.v0 (ofL σ.u0), RunF p.v1 (ofL σ.u1)] ++ MapF p.m σ.L :: SecO p.cv p.db σ.c :: DevF p.db σ.d :: l) := .append (.cons (fixed_box _ _ _) (.cons (fixed_run _ _) (.cons (fixed_run _ _) .nil))) (.cons (fixed_map _ _) (.cons (fixed_secO _ _ _) (.cons (fixed_dev _ _) hl)))
  have h1 := h.pick [BoxP s 93 (stV p σ).cells, RunF p.v0 (ofL σ.u0), RunF p.v1 (ofL σ.u1)]
  cases ha : σ.a with
  | none =>
    rw [ha] at h1
    obtain ⟨F, ⟨e1, e2⟩, _⟩ := h1.fst
    rw [e1]
    refine (ask_nil k w).mono ?_
    rintro e w' ⟨rfl, rfl⟩
    refine ⟨rfl, ?_, Below.refl _ _⟩
    rw [show ({ σ with a := (askO none k).1 } : StD) = σ from eta_a ha]
    exact h
  | some y =>
    rw [ha] at h1
    obtain ⟨F, ⟨b, e1, _⟩, _⟩ := h1.fst
    have h2 := h1.imp (Q' := ArcF b y) (by
      rintro F ⟨b', e2, h3⟩
      rw [e1] at e2
      injection e2 with e2
      injection e2 with e2
      injection e2 with e2
      rw [e2]; exact h3)
    obtain ⟨q1, q2, q3, q4⟩ := hw.arc y ha
    rw [e1]
    have h3 : OneA B (Alls ([BoxP s 93 (stV p σ).cells, RunF p.v0 (ofL σ.u0), RunF p.v1 (ofL σ.u1)] ++ MapF p.m σ.L :: SecO p.cv p.db σ.c :: DevF p.db σ.d :: l)) b y w := h2.sep
    refine (one_ask (fixed_alls hf) h3 k (by have := bnd_len q1 q3; omega) q1).mono ?_
    rintro e w' ⟨rfl, h4, h5⟩
    refine ⟨rfl, ?_, h5⟩
    have h6 := (Own.of_sep h4).imp (Q' := ArcO p.av (some (askA y k).1)) (fun F hF => ⟨b, e1, hF⟩)
    exact h6.back [BoxP s 93 (stV p σ).cells, RunF p.v0 (ofL σ.u0), RunF p.v1 (ofL σ.u1)]
theorem sto_has {few : Nat} (hl : AllF l) (h : Own B (stL s p σ ++ l) w) (hw : WfS few σ) (k : ByteArray) : Calls Tryz.prog 89 #[p.av, .string k] w fun e w' => e = .returned (.bool (hasO σ.a k)) ∧ Below w.heap.size w w' := by
  have hf : AllF ([BoxP s 93 (stV p σ).cells, RunF p.v0 (ofL σ.u0), RunF p.v1 (ofL σ.u1)] ++ MapF p.m σ.L :: SecO p.cv p.db σ.c :: DevF p.db σ.d :: l) := .append (.cons (fixed_box _ _ _) (.cons (fixed_run _ _) (.cons (fixed_run _ _) .nil))) (.cons (fixed_map _ _) (.cons (fixed_secO _ _ _) (.cons (fixed_dev _ _) hl)))
  have h1 := h.pick [BoxP s 93 (stV p σ).cells, RunF p.v0 (ofL σ.u0), RunF p.v1 (ofL σ.u1)]
  cases ha : σ.a with
  | none =>
    rw [ha] at h1
    obtain ⟨F, ⟨e1, e2⟩, _⟩ := h1.fst
    rw [e1]
    exact hasq_nil k w
  | some y =>
    rw [ha] at h1
    obtain ⟨F, ⟨b, e1, _⟩, _⟩ := h1.fst
    have h2 := h1.imp (Q' := ArcF b y) (by
      rintro F ⟨b', e2, h3⟩
      rw [e1] at e2
      injection e2 with e2
      injection e2 with e2
      injection e2 with e2
      rw [e2]; exact h3)
    obtain ⟨q1, q2, q3, q4⟩ := hw.arc y ha
    rw [e1]
    have h3 : OneA B (Alls ([BoxP s 93 (stV p σ).cells, RunF p.v0 (ofL σ.u0), RunF p.v1 (ofL σ.u1)] ++ MapF p.m σ.L :: SecO p.cv p.db σ.c :: DevF p.db σ.d :: l)) b y w := h2.sep
    exact (one_has (fixed_alls hf) h3 k (by have := bnd_len q1 q3; omega) q1).mono fun e w' hh => ⟨hh.1, hh.2.2⟩
/-- What the second cache does with a text. -/
def feedO (d : DevD) : Option SecD → ByteArray → ByteArray → Bool × DevD × Option SecD
  | none, _, _ => (false, d, none)
  | some x, k, t => ((feedX d x k t).1, (feedX d x k t).2.1, some (feedX d x k t).2.2)
/-- And with one that is asked for. -/
def findO (d : DevD) : Option SecD → ByteArray → (ByteArray × Bool) × Option SecD
  | none, _ => ((⟨#[]⟩, false), none)
  | some x, k => ((findX d x k).1, some (findX d x k).2)
theorem sto_sec {x : SecD} (h : Own B (stL s p σ ++ l) w) (hc : σ.c = some x) : ∃ k, p.cv = .pointer (some ⟨k, 0, none⟩) ∧ One B (Both (Alls ([BoxP s 93 (stV p σ).cells, RunF p.v0 (ofL σ.u0), RunF p.v1 (ofL σ.u1), ArcO p.av σ.a, MapF p.m σ.L] ++ l)) (ScF k p.db x)) p.db σ.d w := by
  have h1 := h.pick [BoxP s 93 (stV p σ).cells, RunF p.v0 (ofL σ.u0), RunF p.v1 (ofL σ.u1), ArcO p.av σ.a, MapF p.m σ.L]
  rw [hc] at h1
  obtain ⟨F, ⟨b, e1, _⟩, _⟩ := h1.fst
  have h2 := h1.imp (Q' := ScF b p.db x) (by
    rintro F ⟨b', e2, h3⟩
    rw [e1] at e2
    injection e2 with e2
    injection e2 with e2
    injection e2 with e2
    rw [e2]; exact h3)
  refine ⟨b, e1, ?_⟩
  exact (h2.pick [ScF b p.db x, BoxP s 93 (stV p σ).cells, RunF p.v0 (ofL σ.u0), RunF p.v1 (ofL σ.u1), ArcO p.av σ.a, MapF p.m σ.L]).one2
theorem sto_of_sec {x : SecD} {d' : DevD} {k : Nat} (e1 : p.cv = .pointer (some ⟨k, 0, none⟩)) (h : One B (Both (Alls ([BoxP s 93 (stV p σ).cells, RunF p.v0 (ofL σ.u0), RunF p.v1 (ofL σ.u1), ArcO p.av σ.a, MapF p.m σ.L] ++ l)) (ScF k p.db x)) p.db d' w) : Own B (stL s p { σ with d := d', c := some x } ++ l) w := by
  have h1 := (Own.of_one2 h).back [ScF k p.db x, BoxP s 93 (stV p σ).cells, RunF p.v0 (ofL σ.u0), RunF p.v1 (ofL σ.u1), ArcO p.av σ.a, MapF p.m σ.L]
  have h2 := h1.imp (Q' := SecO p.cv p.db (some x)) (fun F hF => ⟨k, e1, hF⟩)
  exact h2.back [BoxP s 93 (stV p σ).cells, RunF p.v0 (ofL σ.u0), RunF p.v1 (ofL σ.u1), ArcO p.av σ.a, MapF p.m σ.L]
theorem sto_secfix (hl : AllF l) : Fixed (Alls ([BoxP s 93 (stV p σ).cells, RunF p.v0 (ofL σ.u0), RunF p.v1 (ofL σ.u1), ArcO p.av σ.a, MapF p.m σ.L] ++ l)) :=
  fixed_alls (.append (.cons (fixed_box _ _ _) (.cons (fixed_run _ _) (.cons (fixed_run _ _) (.cons (fixed_arcO _ _) (.cons (fixed_map _ _) .nil))))) hl)
theorem sto_nosec (h : Own B (stL s p σ ++ l) w) (hc : σ.c = none) : p.cv = .pointer none := by
  have h1 := h.pick [BoxP s 93 (stV p σ).cells, RunF p.v0 (ofL σ.u0), RunF p.v1 (ofL σ.u1), ArcO p.av σ.a, MapF p.m σ.L]
  rw [hc] at h1
  obtain ⟨F, ⟨e1, _⟩, _⟩ := h1.fst
  exact e1
theorem sto_feed {few : Nat} (hl : AllF l) (h : Own B (stL s p σ ++ l) w) (hw : WfS few σ) (hfew : few ≤ 10000) (hK : Kt w) (hB : 0 < B) (k t : ByteArray) : Calls Tryz.prog 88 #[p.cv, .string k, .string t] w fun e w' => e = .returned (.bool (feedO σ.d σ.c k t).1) ∧ Own B (stL s p { σ with d := (feedO σ.d σ.c k t).2.1, c := (feedO σ.d σ.c k t).2.2 } ++ l) w' ∧ Below B w w' := by
  cases hc : σ.c with
  | none =>
    rw [sto_nosec h hc]
    refine (feed_nil k t w).mono ?_
    rintro e w' ⟨rfl, hb⟩
    refine ⟨rfl, ?_, hb.mono h.size⟩
    rw [show ({ σ with d := (feedO σ.d none k t).2.1, c := (feedO σ.d none k t).2.2 } : StD) = σ from eta_dc rfl hc]
    exact h.keep (sto_all hl) hb
  | some x =>
    obtain ⟨b, e1, h1⟩ := sto_sec h hc
    obtain ⟨q1, q2, q3, q4, q5, q6, q7⟩ := hw.sec x hc
    rw [e1]
    refine (feed_any (sto_secfix hl) h1 q1 q2 q3 hK hB (by have := room_le x.n; omega) (by have := hw.waits; omega) (by omega) k t).mono ?_
    rintro e w' ⟨rfl, h2, h3⟩
    exact ⟨rfl, sto_of_sec e1 h2, h3⟩
theorem sto_find {few : Nat} (hl : AllF l) (h : Own B (stL s p σ ++ l) w) (hw : WfS few σ) (hK : Kt w) (hB : 0 < B) (k : ByteArray) : Calls Tryz.prog 114 #[p.cv, .string k] w fun e w' => e = .returned (.tuple #[.string (findO σ.d σ.c k).1.1, .bool (findO σ.d σ.c k).1.2]) ∧ Own B (stL s p { σ with c := (findO σ.d σ.c k).2 } ++ l) w' ∧ Below B w w' := by
  cases hc : σ.c with
  | none =>
    rw [sto_nosec h hc]
    refine (find_nil k w).mono ?_
    rintro e w' ⟨rfl, hb⟩
    refine ⟨rfl, ?_, hb.mono h.size⟩
    rw [show ({ σ with c := (findO σ.d none k).2 } : StD) = σ from eta_c hc]
    exact h.keep (sto_all hl) hb
  | some x =>
    obtain ⟨b, e1, h1⟩ := sto_sec h hc
    obtain ⟨q1, q2, q3, q4, q5, q6, q7⟩ := hw.sec x hc
    rw [e1]
    refine (find_any (sto_secfix hl) h1 q1 q2 k hK hB (fun l => Nat.le_trans (hw.tiny.tell l) (by decide)) q7).mono ?_
    rintro e w' ⟨rfl, h2, h3⟩
    exact ⟨rfl, sto_of_sec e1 h2, h3⟩
end
end Go.Proofs.YtphhnhldbajaoaaGreatDoor

namespace Go.Proofs.YtphhnhldbajaoaaGreatDoor
open Go.RowKit Go.ChangeShapes Go.WideShapes Go.ChangeAt

theorem WfS.more {few many : Nat} {σ : StD} (h : WfS few σ) (hm : few ≤ many) : WfS many σ :=
  ⟨h.sz, h.pol, h.txg, h.r0, h.r1, h.arc, h.tiny, Nat.le_trans h.waits hm, Nat.le_trans h.kept hm, by have := h.hits; omega, fun x hx => by
    obtain ⟨a, b, c, d, e, f, g⟩ := h.sec x hx
    exact ⟨a, b, c, d, e, Nat.le_trans f hm, g⟩⟩
theorem wf_ask {few : Nat} {σ : StD} (h : WfS few σ) (k : ByteArray) (hk : k.size ≤ 64) : WfS few { σ with a := (askO σ.a k).1 } := by
  refine ⟨h.sz, h.pol, h.txg, h.r0, h.r1, ?_, h.tiny, h.waits, h.kept, h.hits, h.sec⟩
  intro y hy
  cases ha : σ.a with
  | none =>
    have : (askO σ.a k).1 = some y := hy
    rw [ha] at this
    cases this
  | some x =>
    have hy2 : (askO σ.a k).1 = some y := hy
    rw [ha] at hy2
    injection hy2 with hy2
    obtain ⟨q1, q2, q3, q4⟩ := h.arc x ha
    rw [← hy2]
    refine ⟨ask_ok q1 k, ask_inv q2 k, ask_bnd q2 q1 q3 k, fun z hz => ?_⟩
    by_cases hz0 : z = empA
    · rw [hz0]; decide
    by_cases hk0 : k = empA
    · refine q4 z ?_
      have e : (askA x k).1 = x := by unfold askA; rw [if_pos hk0]
      rw [e] at hz
      exact hz
    have h5 := (ask_spec q2 hk0).t z hz0
    by_cases hkz : k = z
    · rw [← hkz]; exact hk
    · have e : (if k = z ∧ (askA x k).2.1 = false then 1 else 0) = 0 := if_neg (fun h => hkz h.1)
      rw [e] at h5
      exact q4 z (by omega)
theorem left_size {few : Nat} {σ : StD} (h : WfS few σ) (k : ByteArray) (hk : k.size ≤ 64) : (askO σ.a k).2.2.size ≤ 64 := by
  cases ha : σ.a with
  | none => exact Nat.zero_le _
  | some x =>
    show (askA x k).2.2.size ≤ 64
    obtain ⟨q1, q2, q3, q4⟩ := h.arc x ha
    by_cases hk0 : k = empA
    · have e : (askA x k).2.2 = empA := by unfold askA; rw [if_pos hk0]
      rw [e]; decide
    by_cases hz0 : (askA x k).2.2 = empA
    · rw [hz0]; decide
    have h5 := (ask_spec q2 hk0).t _ hz0
    rw [if_pos rfl] at h5
    by_cases hkz : k = (askA x k).2.2
    · rw [← hkz]; exact hk
    · rw [if_neg (fun h => hkz h.1)] at h5
      exact q4 _ (by omega)
theorem size_tellX (d : DevD) (x : SecD) (t : Int) : devSize (tellX d x) t = devSize d t := size_writeD _ _ _ _
theorem size_putD' (d : DevD) (x : SecD) (k t : ByteArray) (v : Int) : devSize (putD' d x k t) v = devSize d v := by
  unfold putD' midD flushD
  rw [size_tellX, size_endD, size_writeD, size_endD, size_tellX]
theorem waits_putD' (d : DevD) (x : SecD) (k t : ByteArray) : (putD' d x k t).waits.length ≤ 1 := by
  unfold putD'
  have h1 := waits_write (midD d x t) (logL (midX x k t)) (logT (midX x k t))
  have h2 : (midD d x t).waits.length = 0 := waits_flush _
  show (tellX (midD d x t) (midX x k t)).waits.length ≤ 1
  unfold tellX
  omega
theorem feed_cases (d : DevD) (x : SecD) (k t : ByteArray) : ((feedX d x k t).2.1 = d ∧ (feedX d x k t).2.2 = x) ∨ ((feedX d x k t).2.1 = putD' d x k t ∧ (feedX d x k t).2.2 = putX x k t ∧ mayF k t) := by
  unfold feedX
  split
  · exact .inl ⟨rfl, rfl⟩
  · next h =>
    split
    · exact .inl ⟨rfl, rfl⟩
    · split
      · exact .inl ⟨rfl, rfl⟩
      · exact .inr ⟨rfl, rfl, by
          by_cases hm : mayF k t
          · exact hm
          · exact absurd (.inl hm) h⟩
theorem forget_find {e : List EnD} {p k : Int} {y : CgE} (h : findS (forgetS e p) k = some y) : findS e k = some y := by
  by_cases hk : k = p
  · rw [hk, sforget_same] at h; cases h
  · rwa [sforget_other hk] at h
/-- Sectors of the cache's, each told by its own place. -/
def PosS (x : SecD) : Prop := ∀ k y, findS x.e k = some y → y.pos = k ∧ 0 ≤ k ∧ k < 1000
theorem pos_put {x : SecD} (h : PosS x) (hfn : secN x.f x.hand < 1000) (k t : ByteArray) : PosS (putX x k t) := by
  intro q y hq
  have he : (putX x k t).e = putS (forgetS x.e (atX x)) (atX x) (newE x k t) := rfl
  rw [he] at hq
  by_cases hqa : q = atX x
  · rw [hqa, sput_same] at hq
    injection hq with hq
    rw [← hq, hqa]
    exact ⟨rfl, by unfold atX; omega, by unfold atX; omega⟩
  · rw [sput_other _ hqa] at hq
    exact h q y (forget_find hq)
theorem hand_put {x : SecD} (h2 : 2 ≤ x.n) (k t : ByteArray) : (putX x k t).hand < roomN x.n := Nat.mod_lt (x.hand + 1) (room_pos h2)
theorem wf_feed {few : Nat} {σ : StD} (h : WfS few σ) (k t : ByteArray) : WfS (few + 1) { σ with d := (feedO σ.d σ.c k t).2.1, c := (feedO σ.d σ.c k t).2.2 } := by
  cases hc : σ.c with
  | none =>
    rw [show ({ σ with d := (feedO σ.d none k t).2.1, c := (feedO σ.d none k t).2.2 } : StD) = σ from eta_dc rfl hc]
    exact h.more (Nat.le_succ _)
  | some x =>
    obtain ⟨q1, q2, q3, q4, q5, q6, q7⟩ := h.sec x hc
    rcases feed_cases σ.d x k t with ⟨e1, e2⟩ | ⟨e1, e2, _⟩
    · rw [show ({ σ with d := (feedO σ.d (some x) k t).2.1, c := (feedO σ.d (some x) k t).2.2 } : StD) = σ from eta_dc e1.symm (by rw [hc]; show _ = some (feedX σ.d x k t).2.2; rw [e2])]
      exact h.more (Nat.le_succ _)
    · rw [show ({ σ with d := (feedO σ.d (some x) k t).2.1, c := (feedO σ.d (some x) k t).2.2 } : StD) = { σ with d := putD' σ.d x k t, c := some (putX x k t) } by
        show ({ σ with d := (feedX σ.d x k t).2.1, c := some (feedX σ.d x k t).2.2 } : StD) = _
        rw [e1, e2]]
      refine ⟨fun v => by show devSize (putD' _ _ _ _) v ≤ 512; rw [size_putD']; exact h.sz v, h.pol, h.txg, h.r0.trans (size_putD' _ _ _ _ _).symm, h.r1.trans (size_putD' _ _ _ _ _).symm, h.arc, h.tiny.feed x k t, ?_, Nat.le_succ_of_le h.kept, (h.more (Nat.le_succ few)).hits, ?_⟩
      · have := waits_putD' σ.d x k t
        show (putD' σ.d x k t).waits.length ≤ few + 1
        omega
      · intro y hy
        have hy : some (putX x k t) = some y := hy
        injection hy with hy
        rw [← hy]
        refine ⟨q1, q2, q3, hand_put q3 k t, q5, ?_, ?_⟩
        · have he : (putX x k t).e = putS (forgetS x.e (atX x)) (atX x) (newE x k t) := rfl
          rw [he]
          have h1 := sput_len (l := forgetS x.e (atX x)) (atX x) (newE x k t)
          have h2 := sforget_le x.e (atX x)
          omega
        · exact pos_put q7 (by have := secN_lt (f := x.f) q4; omega) k t
theorem find_cases (d : DevD) (x : SecD) (k : ByteArray) : (findX d x k).2 = x ∨ ∃ p, (findX d x k).2 = { x with e := forgetS x.e p } := by
  unfold findX
  split
  · exact .inl rfl
  · split
    · exact .inl rfl
    · exact .inr ⟨_, rfl⟩
theorem wf_find {few : Nat} {σ : StD} (h : WfS few σ) (k : ByteArray) : WfS few { σ with c := (findO σ.d σ.c k).2 } := by
  cases hc : σ.c with
  | none =>
    rw [show ({ σ with c := (findO σ.d none k).2 } : StD) = σ from eta_c hc]
    exact h
  | some x =>
    refine ⟨h.sz, h.pol, h.txg, h.r0, h.r1, h.arc, h.tiny, h.waits, h.kept, h.hits, ?_⟩
    intro y hy
    have hy : some (findX σ.d x k).2 = some y := hy
    injection hy with hy
    obtain ⟨q1, q2, q3, q4, q5, q6, q7⟩ := h.sec x hc
    rcases find_cases σ.d x k with e | ⟨p, e⟩
    · rw [← hy, e]; exact ⟨q1, q2, q3, q4, q5, q6, q7⟩
    · rw [← hy, e]
      exact ⟨q1, q2, q3, q4, q5, Nat.le_trans (sforget_le _ _) q6, fun q z hz => q7 q z (forget_find hz)⟩
theorem wf_drop {few : Nat} {σ : StD} (h : WfS few σ) (k : ByteArray) : WfS few { σ with L := dropL σ.L k } :=
  ⟨h.sz, h.pol, h.txg, h.r0, h.r1, h.arc, h.tiny, h.waits, Nat.le_trans (dropL_le _ _) h.kept, h.hits, h.sec⟩
theorem wf_put {few : Nat} {σ : StD} (h : WfS few σ) (k t : ByteArray) : WfS (few + 1) { σ with L := putL σ.L k t } :=
  let g := h.more (Nat.le_succ few)
  ⟨g.sz, g.pol, g.txg, g.r0, g.r1, g.arc, g.tiny, g.waits, Nat.le_trans (putL_len _ _ _) (Nat.succ_le_succ h.kept), g.hits, g.sec⟩
/-- What leaves memory is fed to the second cache. -/
def leaveS (σ : StD) (left : ByteArray) : StD := match findL σ.L left with
  | none => σ
  | some t => { σ with d := (feedO σ.d σ.c left t).2.1, c := (feedO σ.d σ.c left t).2.2, L := dropL σ.L left }
/-- A text is kept. -/
def keepS (σ : StD) (ref t : ByteArray) : StD :=
  let τ := leaveS { σ with a := (askO σ.a ref).1 } (askO σ.a ref).2.2
  if hasO τ.a ref = true then { τ with L := putL τ.L ref t } else τ
theorem wf_leave {few : Nat} {σ : StD} (h : WfS few σ) (k : ByteArray) : WfS (few + 1) (leaveS σ k) := by
  unfold leaveS
  split
  · exact h.more (Nat.le_succ _)
  · exact wf_drop (wf_feed h k _) k
theorem wf_keep {few : Nat} {σ : StD} (h : WfS few σ) (ref t : ByteArray) (hr : ref.size ≤ 64) : WfS (few + 2) (keepS σ ref t) := by
  unfold keepS
  have h1 := wf_leave (wf_ask h ref hr) (askO σ.a ref).2.2
  dsimp only
  split
  · exact wf_put h1 ref t
  · exact h1.more (Nat.le_succ _)
end Go.Proofs.YtphhnhldbajaoaaGreatDoor

namespace Go.Proofs.YtphhnhldbajaoaaGreatDoor
open Go.RowKit

def PrV (x : Int × Int) : List Value := [.int .i64 x.1, .int .i64 x.2]
theorem infoLoc : (Tryz.prog.info? 47).map (fun i => (i.zero, i.size, i.bytes)) = some (some (.agg #[.int .i64 0, .int .i64 0]), 2, 16) := by kernel_rfl

/-- The value v is a slice of the call's own that holds the pairs l. -/
def Prs (w : World) (base : Nat) (v : Value) (l : List (Int × Int)) : Prop := w.ownsRow base 47 2 v l.length (l.flatMap PrV)
theorem Prs.nil (w : World) (base : Nat) : Prs w base (.slice none 0 0) [] := World.ownsRow_nil _ _ _ _
theorem Prs.own_block {w : World} {base : Nat} {v : Value} {l : List (Int × Int)} (h : Prs w base v l) : ∀ k, v.ownBlock = some k → base ≤ k := by
  intro k hk
  rcases h.2 with ⟨rfl, _⟩ | ⟨g, cap, cur, rfl, hg, _⟩
  · cases hk
  · simp [Value.ownBlock] at hk; omega
theorem Prs.keep {w w' : World} {base : Nat} {v : Value} {l : List (Int × Int)} (h : Prs w base v l) (hb : Below w.heap.size w w') : Prs w' base v l :=
  ownsRow_of h fun k _ hlt => hb.block k hlt
theorem Prs.alloc {w : World} {base : Nat} {v : Value} {l : List (Int × Int)} (h : Prs w base v l) (o : Obj) : Prs (w.alloc o) base v l := World.ownsRow.alloc h o
theorem Prs.view {w : World} {base : Nat} {v : Value} {l : List (Int × Int)} (h : Prs w base v l) : ∃ a cap, v = .slice a l.length cap ∧ SlP w a l := by
  have h' := h
  rcases h.2 with ⟨rfl, h0⟩ | ⟨g, cap, cur, rfl, hg, hh, _⟩
  · have : l = [] := List.eq_nil_of_length_eq_zero h0
    subst this
    exact ⟨none, 0, rfl, SlP.nil⟩
  · refine ⟨some ⟨g, 0, none⟩, cap, rfl, fun _ => ⟨g, 0, rfl, lt_of_block hh, fun i x hx => ?_⟩⟩
    have hi : i < l.length := (List.getElem?_eq_some_iff.1 hx).1
    have h0 := flat_get PrV 2 (fun _ => rfl) l i x hx 0 (by decide)
    have h1 := flat_get PrV 2 (fun _ => rfl) l i x hx 1 (by decide)
    constructor
    · rw [Nat.zero_add, World.ownsRow.cellAt h' (i * 2) (by omega)]; exact h0
    · rw [Nat.zero_add, World.ownsRow.cellAt h' (i * 2 + 1) (by omega)]; exact h1

/-- 'append(out, x)' of one pair, at a step of a region. -/
theorem step_prs_push {ops : Array Oper} {o : Oper} {a : Act} {W : World} {K : Act → World → Prop} {Q : Exit → Act → World → Prop} {E : Prop} (hgd : o.guard = none) (s x : Operand)
    (ho : o.op = .call { callee := .builtin .append, args := #[s, x], argTypes := #[24, 24] })
    (base : Nat) (v : Value) (l : List (Int × Int)) (hs : a.eval s = v) (hb : Prs W base v l)
    (ad : Addr) (c : Nat) (p : Int × Int) (hx : a.eval x = .slice (some ad) 1 c) (hcell : ∀ j u, (PrV p)[j]? = some u → W.cell? (ad.add j) = some u)
    (hbytes : l.length ≤ 100000) (hbase : base ≤ W.heap.size)
    (h : ∀ v' w', Prs w' base v' (l ++ [p]) → W.grownBy w' v.ownBlock → K (a.put o.dst v') w') :
    if Region.wanted o (yielded ops a.tmps) = true then Oper.wp Tryz.prog o a W K Q else E := by
  have hw : Region.wanted o (yielded ops a.tmps) = true := by simp [Region.wanted, hgd]
  rw [if_pos hw]
  obtain ⟨i0, hi, hz0, hz1, hz2⟩ := info_parts infoLoc
  refine wp_append_own W s x 24 ho base 47 i0 (.agg #[.int .i64 0, .int .i64 0]) 2 16 Tryz.underlying24 hi hz0 hz1 hz2 rfl (by decide) v l.length _ hs hb ad 1 c (PrV p) hx rfl hcell ?_ (by unfold maxLen; omega) (by omega) hbase ?_
  · intro u hu
    simp [PrV] at hu
    rcases hu with rfl | rfl <;> rfl
  · intro v' w' h1 h2 _
    refine h v' w' ?_ h2
    unfold Prs
    rw [List.flatMap_append, List.length_append]
    exact h1
theorem wp_prs_push {ops : Array Oper} {rest : List Oper} {o : Oper} {a : Act} {Q : Exit → Act → World → Prop} (W : World) (hgd : o.guard = none) (s x : Operand)
    (ho : o.op = .call { callee := .builtin .append, args := #[s, x], argTypes := #[24, 24] })
    (base : Nat) (v : Value) (l : List (Int × Int)) (hs : a.eval s = v) (hb : Prs W base v l)
    (ad : Addr) (c : Nat) (p : Int × Int) (hx : a.eval x = .slice (some ad) 1 c) (hcell : ∀ j u, (PrV p)[j]? = some u → W.cell? (ad.add j) = some u)
    (hbytes : l.length ≤ 100000) (hbase : base ≤ W.heap.size)
    (h : ∀ v' w', Prs w' base v' (l ++ [p]) → W.grownBy w' v.ownBlock → wpList Tryz.prog ops Q rest (a.put o.dst v') w') : wpList Tryz.prog ops Q (o :: rest) a W := by
  obtain ⟨i0, hi, hz0, hz1, hz2⟩ := info_parts infoLoc
  refine wpList_append_own W hgd s x 24 ho base 47 i0 (.agg #[.int .i64 0, .int .i64 0]) 2 16 Tryz.underlying24 hi hz0 hz1 hz2 rfl (by decide) v l.length _ hs hb ad 1 c (PrV p) hx rfl hcell ?_ (by unfold maxLen; omega) (by omega) hbase ?_
  · intro u hu
    simp [PrV] at hu
    rcases hu with rfl | rfl <;> rfl
  · intro v' w' h1 h2 _
    refine h v' w' ?_ h2
    unfold Prs
    rw [List.flatMap_append, List.length_append]
    exact h1
end Go.Proofs.YtphhnhldbajaoaaGreatDoor

namespace Go.Proofs.YtphhnhldbajaoaaGreatDoor
open Go.RowKit Go.WideShapes

def nilP : PtrD := ⟨[], 0, 0, ⟨#[]⟩⟩
def locAt (s : ByteArray) (j : Nat) : Int × Int := (valN s (1 + 3 * j) 1, valN s (2 + 3 * j) 2)
def rawP (s : ByteArray) (c : Nat) : PtrD := ⟨(List.range c).map (locAt s), valN s (1 + 3 * c) 2, valN s (3 + 3 * c) 6, valB s (9 + 3 * c) 32⟩
/-- What Decode answers. -/
def decP (s : ByteArray) : PtrD × Int :=
  if s.size = 0 then (nilP, 2) else if valN s 0 1 < 1 ∨ 2 < valN s 0 1 then (nilP, 3) else
  if posEnd s (41 + 3 * valN s 0 1) ≠ 0 then (nilP, posEnd s (41 + 3 * valN s 0 1)) else if badP (rawP s (valN s 0 1)) then (nilP, 3) else (rawP s (valN s 0 1), 0)

theorem RdPos.keepN {w w' : World} {b n : Nat} {s : ByteArray} {k : Nat} (h : RdPos w b s k) (hb : Below n w w') (hn : b < n) : RdPos w' b s k := by
  show w'.heap[b]? = _
  rw [hb.block b hn]; exact h

theorem locs_snoc (s : ByteArray) (k : Nat) : (List.range (k + 1)).map (locAt s) = (List.range k).map (locAt s) ++ [(((valN s (1 + 3 * k) 1 : Nat) : Int), ((valN s (2 + 3 * k) 2 : Nat) : Int))] := by
  rw [List.range_succ, List.map_append]; rfl

/-- What the loop holds. -/
structure DecI (w0 : World) (D R P : Nat) (s : ByteArray) (k : Nat) (v : Value) (w : World) : Prop where
  box : Box w P 37 #[v, .int .i64 0, .int .i64 0, .string ⟨#[]⟩]
  row : Prs w (P + 1) v ((List.range k).map (locAt s))
  rd : RdPos w R s (1 + 3 * k)
  res : Box w D 37 #[.slice none 0 0, .int .i64 0, .int .i64 0, .string ⟨#[]⟩]
  bel : Below w0.heap.size w0 w

theorem DecI.next {w0 wr w4 w5 : World} {D R P : Nat} {s : ByteArray} {k n c5 : Nat} {v : Value} {a5 : Option Addr} {o : Obj} (h : DecI w0 D R P s k v wr) (hP : R < P) (hD : D < R) (hw0 : w0.heap.size ≤ D)
    (h4 : Only R wr w4) (r4 : RdPos w4 R s (1 + 3 * (k + 1))) (x5 : Box w5 P 37 #[v, .int .i64 0, .int .i64 0, .string ⟨#[]⟩]) (g5 : (w4.alloc o).grownBy w5 v.ownBlock)
    (p5 : Prs w5 (P + 1) (.slice a5 n c5) ((List.range (k + 1)).map (locAt s))) : DecI w0 D R P s (k + 1) (.slice a5 n c5) (w5.setCell ⟨P, 0, none⟩ (.slice a5 n c5)) := by
  have hv : ∀ j, j ≤ P → some j ≠ v.ownBlock := fun j hj e => by have := h.row.own_block _ e.symm; omega
  have hR : R < w4.heap.size := r4.lt
  have hbel : Below w0.heap.size w4 (w5.setCell ⟨P, 0, none⟩ (.slice a5 n c5)) := by
    refine Below.setCell ?_ (by simp only; omega) _
    refine Below.grown ((Below.refl _ _).alloc (by omega) o) g5 (by rw [size_alloc]; omega) (fun j hj => ?_)
    have := h.row.own_block _ hj; omega
  have hblk : ∀ j, j ≤ R → (w5.setCell ⟨P, 0, none⟩ (.slice a5 n c5)).heap[j]? = w4.heap[j]? := fun j hj => by
    rw [heap_setCell_other _ _ _ _ (by simp only; omega), g5.block j (by rw [size_alloc]; omega) (hv j (by omega))]
    exact ((Below.refl w4.heap.size w4).alloc (Nat.le_refl _) o).block j (by omega)
  refine ⟨x5.set 0 _, (Only.set P 0 w5 _).row (fun e => ?_) p5, ?_, ?_, ?_⟩
  · have := p5.own_block _ e; omega
  · show _ = _
    rw [hblk R (Nat.le_refl _)]; exact r4
  · exact (h4.box (by omega) h.res).of (hblk D (by omega))
  · exact h.bel.trans ((h4.below' (by omega) h.bel.size).trans hbel)

theorem results_cell_row_tmp {P : Program} {fn : Func} {p u : Tmp} {ty : TypeId} (h : fn.results = #[.cell p ty, .tmp u]) (tmps : Array Value) (w : World) (g : Nat) (t : TypeId) (cs : Array Value) (fr : Nat × Nat) (d : TypeDesc)
    (hp : tmps.getD p undef = .pointer (some ⟨g, 0, none⟩)) (hg : w.heap[g]? = some (.cells cs t fr))
    (hu : P.underlying ty = some d) (hd : (match d with | .struct _ | .array _ _ => true | _ => false) = true) (hi : (P.info? ty).map (·.size) = some cs.size) :
    (results fn tmps).run P w = .ok (.tuple #[.agg cs, tmps.getD u undef]) w := by
  rw [results_cell_tmp h, hp]
  simp [asAddr, run_loadVar_row w g t ty cs fr d hg hu hd hi]

theorem sizePtr : (Tryz.prog.info? 37).map (·.size) = some 4 := by kernel_rfl

/-- What stands behind the loop. -/
structure DecT (w0 : World) (D R P : Nat) (s : ByteArray) (pos : Nat) (cs : Array Value) (v : Value) (l : List (Int × Int)) (w : World) : Prop where
  box : Box w P 37 cs
  row : Prs w (P + 1) v l
  rd : RdPos w R s pos
  res : Box w D 37 #[.slice none 0 0, .int .i64 0, .int .i64 0, .string ⟨#[]⟩]
  bel : Below w0.heap.size w0 w
  hP : R < P
  hD : D < R
  hw : w0.heap.size ≤ D
theorem DecT.call {w0 w w' : World} {D R P : Nat} {s : ByteArray} {pos pos' : Nat} {cs : Array Value} {v : Value} {l : List (Int × Int)} (h : DecT w0 D R P s pos cs v l w) (hb : Only R w w') (hr : RdPos w' R s pos') : DecT w0 D R P s pos' cs v l w' :=
  ⟨hb.box (by have := h.hP; omega) h.box, hb.row (fun e => by have := h.row.own_block _ e; have := h.hP; omega) h.row, hr, hb.box (by have := h.hD; omega) h.res, h.bel.trans (hb.below' (by have := h.hD; have := h.hw; omega) h.bel.size), h.hP, h.hD, h.hw⟩
theorem retBox {w : World} {D : Nat} {t : TypeId} {y0 y1 y2 y3 : Value} (h : Box w D t #[y0, y1, y2, y3]) (x0 x1 x2 x3 : Value) :
    Box ((((w.setCell ⟨D, 0, none⟩ x0).setCell ⟨D, 1, none⟩ x1).setCell ⟨D, 2, none⟩ x2).setCell ⟨D, 3, none⟩ x3) D t #[x0, x1, x2, x3] ∧
    Only D w ((((w.setCell ⟨D, 0, none⟩ x0).setCell ⟨D, 1, none⟩ x1).setCell ⟨D, 2, none⟩ x2).setCell ⟨D, 3, none⟩ x3) :=
  ⟨(((h.set 0 x0).set 1 x1).set 2 x2).set 3 x3, (((Only.set D 0 w x0).trans (Only.set D 1 _ x1)).trans (Only.set D 2 _ x2)).trans (Only.set D 3 _ x3)⟩
/-- The result's box, written whole. -/
theorem DecT.ret {w0 w : World} {D R P : Nat} {s : ByteArray} {pos : Nat} {cs : Array Value} {v : Value} {l : List (Int × Int)} (h : DecT w0 D R P s pos cs v l w) (x0 x1 x2 x3 : Value) :
    Box ((((w.setCell ⟨D, 0, none⟩ x0).setCell ⟨D, 1, none⟩ x1).setCell ⟨D, 2, none⟩ x2).setCell ⟨D, 3, none⟩ x3) D 37 #[x0, x1, x2, x3] ∧
    Only D w ((((w.setCell ⟨D, 0, none⟩ x0).setCell ⟨D, 1, none⟩ x1).setCell ⟨D, 2, none⟩ x2).setCell ⟨D, 3, none⟩ x3) :=
  ⟨(((h.res.set 0 x0).set 1 x1).set 2 x2).set 3 x3, (((Only.set D 0 w x0).trans (Only.set D 1 _ x1)).trans (Only.set D 2 _ x2)).trans (Only.set D 3 _ x3)⟩
theorem DecT.put {w0 w : World} {D R P : Nat} {s : ByteArray} {pos : Nat} {cs : Array Value} {v : Value} {l : List (Int × Int)} (h : DecT w0 D R P s pos cs v l w) (j : Nat) (u : Value) : DecT w0 D R P s pos (cs.setIfInBounds j u) v l (w.setCell ⟨P, j, none⟩ u) := by
  have hb : Only P w (w.setCell ⟨P, j, none⟩ u) := Only.set P j w u
  refine ⟨h.box.set j u, hb.row (fun e => by have := h.row.own_block _ e; omega) h.row, ?_, hb.box (by have := h.hP; have := h.hD; omega) h.res, h.bel.trans (hb.below' (by have := h.hP; have := h.hD; have := h.hw; omega) h.bel.size), h.hP, h.hD, h.hw⟩
  show _ = _
  rw [heap_setCell_other _ _ _ _ (by have := h.hP; simp only; omega)]
  exact h.rd

end Go.Proofs.YtphhnhldbajaoaaGreatDoor
