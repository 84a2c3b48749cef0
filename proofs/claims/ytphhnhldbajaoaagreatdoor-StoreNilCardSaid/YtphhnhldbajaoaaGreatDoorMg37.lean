/-
  Texts put together: StO, StN, PtrDecF.
-/
import Derived.Test.YtphhnhldbajaoaaGreatDoorMg36
namespace Go.Proofs.YtphhnhldbajaoaaGreatDoor
open Go Go.RowKit Go.ChangeShapes Go.WideShapes Go.ChangeAt

theorem findX_size {d : DevD} (h : Tiny d) (x : SecD) (k : ByteArray) : (findX d x k).1.1.size ≤ 1024 := by
  unfold findX
  split
  · exact Nat.zero_le _
  · split
    · exact h.tell _
    · exact Nat.zero_le _
theorem findO_size {d : DevD} (h : Tiny d) (c : Option SecD) (k : ByteArray) : (findO d c k).1.1.size ≤ 1024 := by
  cases c with
  | none => exact Nat.zero_le _
  | some x => exact findX_size h x k
section
variable {B : Nat} {l : List (List Nat → World → Prop)} {s : Nat} {p : StP} {σ : StD} {w : World}
theorem srecall_own (hl : AllF l) (h : Own B (stL s p σ ++ l) w) (ref : ByteArray) (hr : ref.size ≤ maxLen) (pa : Option Addr) (pc : Nat) (q : PtrD) :
    Calls Tryz.prog 84 #[.pointer (some ⟨s, 0, none⟩), .string ref, ptrV pa pc q] w fun e w' => e = .returned (.tuple #[.string (recB σ.L ref), .bool (findL σ.L ref).isSome]) ∧ Own B (stL s p σ ++ l) w' ∧ Below B w w' :=
  (srecall_any (sto_box h) σ.L (sto_map h) ref hr pa pc q).mono fun _e _w' hh => ⟨hh.1, h.keep (sto_all hl) hh.2, hh.2.mono h.size⟩
theorem sfind_own {few : Nat} (hl : AllF l) (h : Own B (stL s p σ ++ l) w) (hw : WfS few σ) (hK : Kt w) (hB : 0 < B) (ref : ByteArray) (pa : Option Addr) (pc : Nat) (q : PtrD) :
    Calls Tryz.prog 85 #[.pointer (some ⟨s, 0, none⟩), .string ref, ptrV pa pc q] w fun e w' => e = .returned (.tuple #[.string (heldT (findO σ.d σ.c ref).1 q).1, .bool (heldT (findO σ.d σ.c ref).1 q).2]) ∧ Own B (stL s p { σ with c := (findO σ.d σ.c ref).2 } ++ l) w' ∧ Below B w w' := by
  have hba : Below w.heap.size w (w.alloc (.cells #[.slice pa q.locs.length pc, .int .i64 q.len, .int .i64 q.birth, .string q.sum] 37 (0, 0))) := (Below.refl _ _).alloc (Nat.le_refl _) _
  have h1 : Own B (stL s p σ ++ BoxP w.heap.size 37 #[.slice pa q.locs.length pc, .int .i64 q.len, .int .i64 q.birth, .string q.sum] :: l) (w.alloc (.cells #[.slice pa q.locs.length pc, .int .i64 q.len, .int .i64 q.birth, .string q.sum] 37 (0, 0))) := (h.alloc (sto_all hl) _ _).back (stL s p σ)
  have hl1 : AllF (BoxP w.heap.size 37 #[.slice pa q.locs.length pc, .int .i64 q.len, .int .i64 q.birth, .string q.sum] :: l) := .cons (fixed_box _ _ _) hl
  refine (sfind_any (sto_box h) ref pa pc q (findO σ.d σ.c ref).1 (Nat.le_trans (findO_size hw.tiny _ _) (by decide))
    (fun W => Own B (stL s p { σ with c := (findO σ.d σ.c ref).2 } ++ BoxP w.heap.size 37 #[.slice pa q.locs.length pc, .int .i64 q.len, .int .i64 q.birth, .string q.sum] :: l) W ∧ Below B w W) ?_ ?_ ?_).mono ?_
  · refine (sto_find hl1 h1 hw (hK.below (hba.mono h.size) hB) hB ref).mono ?_
    rintro e w' ⟨rfl, h2, h3⟩
    exact ⟨rfl, h2, (hba.mono h.size).trans h3⟩
  · rintro W ⟨h2, h3⟩
    have hb := (h2.pick (stL s p { σ with c := (findO σ.d σ.c ref).2 })).boxed
    exact ⟨hb.cell 1 _ rfl, hb.cell 3 _ rfl, hK.below h3 hB⟩
  · rintro W W' ⟨h2, h3⟩ hb
    exact ⟨h2.keep (sto_all hl1) hb, h3.trans (hb.mono h2.size)⟩
  · rintro e w' ⟨rfl, h2, h3⟩
    exact ⟨rfl, (h2.pick (stL s p { σ with c := (findO σ.d σ.c ref).2 })).weak, h3⟩
theorem sread_own {few : Nat} (hl : AllF l) (h : Own B (stL s p σ ++ l) w) (hw : WfS few σ) (hK : Kt w) (hB : 0 < B) (ref : ByteArray) (pa : Option Addr) (pc : Nat) (q : PtrD) (hq : q.locs.length ≤ 1000) (hs : SlP w pa q.locs) :
    Calls Tryz.prog 86 #[.pointer (some ⟨s, 0, none⟩), .string ref, ptrV pa pc q] w fun e w' => e = .returned (.tuple #[.string (readR (toldD σ.d q) q).1, .bool ((readR (toldD σ.d q) q).2.2 == 0)]) ∧ Own B (stL s p σ ++ l) w' ∧ Below B w w' := by
  refine (sread_any (sto_box h) ref pa pc q (toldD σ.d q) hq hs (fun W hb => hK.below (hb.mono h.size) hB) (fun k => Nat.le_trans (hw.tiny.tell _) (by decide)) (fun W hb => ?_)).mono fun e w' hh => ⟨hh.1, h.keep (sto_all hl) hh.2, hh.2.mono h.size⟩
  exact one_rd (sto_fix hl) ((sto_one h).keep (sto_fix hl) hb) q
end
/-- The ways, one after the other: what each has, and what the store is behind it. -/
def triesS (σ : StD) (ref : ByteArray) (q : PtrD) : Nat → (ByteArray × Bool) × StD
  | 0 => ((recB σ.L ref, (findL σ.L ref).isSome), σ)
  | 1 => (heldT (findO σ.d σ.c ref).1 q, { σ with c := (findO σ.d σ.c ref).2 })
  | _ => (((readR (toldD σ.d q) q).1, (readR (toldD σ.d q) q).2.2 == 0), σ)
def hitS (σ : StD) : Nat → StD
  | 0 => { σ with h0 := σ.h0 + 1 }
  | 1 => { σ with h1 := σ.h1 + 1 }
  | _ => { σ with h2 := σ.h2 + 1 }
/-- From the k-th way on; n ways are left. -/
def goS (ref : ByteArray) (q : PtrD) : Nat → Nat → StD → (ByteArray × Int) × StD
  | 0, _, σ => ((⟨#[]⟩, 7), σ)
  | n + 1, k, σ => if (triesS σ ref q k).1.2 = true then (((triesS σ ref q k).1.1, 0), keepS (hitS (triesS σ ref q k).2 k) ref (triesS σ ref q k).1.1) else goS ref q n (k + 1) (triesS σ ref q k).2
/-- What Get answers, and what becomes of the store. -/
def getS (σ : StD) (ref : ByteArray) : (ByteArray × Int) × StD :=
  if (decP ref).2 ≠ 0 then ((⟨#[]⟩, 3), σ) else goS ref (decP ref).1 3 0 σ
theorem wf_hit {few : Nat} {σ : StD} (h : WfS few σ) (k : Nat) : WfS (few + 1) (hitS σ k) := by
  have g := h.more (Nat.le_succ few)
  have hh := h.hits
  unfold hitS
  split
  · exact ⟨g.sz, g.pol, g.txg, g.r0, g.r1, g.arc, g.tiny, g.waits, g.kept, by show (0 ≤ σ.h0 + 1 ∧ σ.h0 + 1 ≤ ((few + 1 : Nat) : Int)) ∧ (0 ≤ σ.h1 ∧ σ.h1 ≤ ((few + 1 : Nat) : Int)) ∧ (0 ≤ σ.h2 ∧ σ.h2 ≤ ((few + 1 : Nat) : Int)); omega, g.sec⟩
  · exact ⟨g.sz, g.pol, g.txg, g.r0, g.r1, g.arc, g.tiny, g.waits, g.kept, by show (0 ≤ σ.h0 ∧ σ.h0 ≤ ((few + 1 : Nat) : Int)) ∧ (0 ≤ σ.h1 + 1 ∧ σ.h1 + 1 ≤ ((few + 1 : Nat) : Int)) ∧ (0 ≤ σ.h2 ∧ σ.h2 ≤ ((few + 1 : Nat) : Int)); omega, g.sec⟩
  · exact ⟨g.sz, g.pol, g.txg, g.r0, g.r1, g.arc, g.tiny, g.waits, g.kept, by show (0 ≤ σ.h0 ∧ σ.h0 ≤ ((few + 1 : Nat) : Int)) ∧ (0 ≤ σ.h1 ∧ σ.h1 ≤ ((few + 1 : Nat) : Int)) ∧ (0 ≤ σ.h2 + 1 ∧ σ.h2 + 1 ≤ ((few + 1 : Nat) : Int)); omega, g.sec⟩
theorem wf_tries {few : Nat} {σ : StD} (h : WfS few σ) (ref : ByteArray) (q : PtrD) (k : Nat) : WfS few (triesS σ ref q k).2 := by
  unfold triesS
  split
  · exact h
  · exact wf_find h ref
  · exact h
theorem wf_go (ref : ByteArray) (hr : ref.size ≤ 64) (q : PtrD) : ∀ (n k : Nat) {few : Nat} {σ : StD}, WfS few σ → WfS (few + 3) (goS ref q n k σ).2
  | 0, _, _, _, h => h.more (by omega)
  | n + 1, k, few, σ, h => by
    unfold goS
    split
    · exact wf_keep (wf_hit (wf_tries h ref q k) k) ref _ hr
    · exact wf_go ref hr q n (k + 1) (wf_tries h ref q k)
end Go.Proofs.YtphhnhldbajaoaaGreatDoor

namespace Go.Proofs.YtphhnhldbajaoaaGreatDoor
open Go Go.RowKit Go.ChangeShapes Go.WideShapes Go.ChangeAt

section
variable {B : Nat} {l : List (List Nat → World → Prop)} {s : Nat} {p : StP} {σ : StD} {w : World}
theorem bl_look (h : Own B (stL s p σ ++ l) w) (k : ByteArray) (hk : k.size ≤ maxLen) : (Instr.lookup 89 (.map (some p.m)) (.string k) true).run Tryz.prog w = .ok (.tuple #[.agg #[.string (recB σ.L k)], .bool (findL σ.L k).isSome]) w := MapAt.look_ok (S := BlS) (sto_map h) hk
theorem keep_has {k : ByteArray} {t : ByteArray} (h : findL σ.L k = some t) : leaveS σ k = { σ with d := (feedO σ.d σ.c k t).2.1, c := (feedO σ.d σ.c k t).2.2, L := dropL σ.L k } := by unfold leaveS; rw [h]
theorem keep_no {k : ByteArray} (h : findL σ.L k = none) : leaveS σ k = σ := by unfold leaveS; rw [h]
set_option maxRecDepth 100000 in
set_option maxHeartbeats 8000000 in
/-- The end of keep: a text is kept where memory has its ref. -/
theorem skeep_any {few : Nat} (hl : AllF l) (h : Own B (stL s p σ ++ l) w) (hw : WfS few σ) (hfew : few ≤ 9000) (hK : Kt w) (hB : 0 < B) (ref t : ByteArray) (hr : ref.size ≤ 64) :
    Calls Tryz.prog 44 #[.pointer (some ⟨s, 0, none⟩), .string ref, .string t] w fun e w' => e = .returned (.tuple #[]) ∧ Own B (stL s p (keepS σ ref t) ++ l) w' ∧ Below B w w' := by
  have HL := Lib.hid hl
  have HO := Lib.hid h
  have HWF := Lib.hid hw
  have HFE := Lib.hid hfew
  have HK := Lib.hid hK
  have HBP := Lib.hid hB
  have HR := Lib.hid hr
  have b9 : w.cell? ⟨s, 9, none⟩ = some p.av := (sto_box h).cell 9 _ rfl
  have HASK := Lib.hid (sto_ask hl h hw ref)
  have HWA := Lib.hid (wf_ask hw ref hr)
  have HLZ := Lib.hid (left_size hw ref hr)
  obtain ⟨hit, hhit⟩ : ∃ x, x = (askO σ.a ref).2.1 := ⟨_, rfl⟩
  obtain ⟨left, hleft⟩ : ∃ x, x = (askO σ.a ref).2.2 := ⟨_, rfl⟩
  obtain ⟨τ, hτ⟩ : ∃ τ, τ = ({ σ with a := (askO σ.a ref).1 } : StD) := ⟨_, rfl⟩
  have HKE : Hid (keepS σ ref t = if hasO (leaveS τ left).a ref = true then { leaveS τ left with L := putL (leaveS τ left).L ref t } else leaveS τ left) := by
    show _ = _
    rw [hτ, hleft]; rfl
  rw [← hhit, ← hleft, ← hτ] at HASK
  rw [← hτ] at HWA
  rw [← hleft] at HLZ
  have HPT : Hid (∀ ρ : StD, stL s p ρ = stL s p ρ) := fun _ => rfl
  clear hhit hleft hτ h hl hw hfew hK hB hr HPT
  go_enter Tryz.func44, Tryz.ntmps44
  go_wp2_with fail
  refine HASK.out.mono ?_
  rintro e w1 ⟨rfl, ho1, hb1⟩
  have HO1 := Lib.hid ho1
  have HB1 := Lib.hid hb1
  have b10 : w1.cell? ⟨s, 10, none⟩ = some (.map (some p.m)) := (sto_box ho1).cell 10 _ rfl
  have hlk := bl_look ho1 left (Nat.le_trans HLZ.out (by decide))
  clear ho1 hb1 HASK b9
  obtain ⟨ρ, hρ⟩ : ∃ ρ, ρ = leaveS τ left := ⟨_, rfl⟩
  rw [← hρ] at HKE
  have HWK : Hid (WfS (few + 1) ρ) := by show WfS _ _; rw [hρ]; exact wf_leave HWA.out left
  cases hf : findL τ.L left with
  | none =>
    have HOR : Hid (ρ = τ) := hρ.trans (keep_no hf)
    rw [hf] at hlk
    obtain ⟨tx, htx⟩ : ∃ tx, tx = recB τ.L left := ⟨_, rfl⟩
    rw [← htx] at hlk
    clear htx hf hρ
    obtain ⟨wk, hwk⟩ : ∃ wk, wk = w1.alloc (.cells #[.string tx] 134 (0, 0)) := ⟨_, rfl⟩
    have hbk : Below w1.heap.size w1 wk := by rw [hwk]; exact (Below.refl _ _).alloc (Nat.le_refl _) _
    have HOK : Hid (Own B (stL s p ρ ++ l) wk) := by show Own _ _ _; rw [HOR.out]; exact HO1.out.keep (sto_all HL.out) hbk
    have HBK := Lib.hid (HB1.out.trans (hbk.mono HO1.out.size))
    have b9 : (w1.alloc (.cells #[.string tx] 134 (0, 0))).cell? ⟨s, 9, none⟩ = some p.av := by rw [← hwk]; exact (sto_box HOK.out).cell 9 _ rfl
    have hwk2 := Lib.hid hwk
    clear hwk hbk HO1 HB1
    have HHAS := Lib.hid (sto_has HL.out HOK.out HWK.out ref)
    obtain ⟨hv, hhv⟩ : ∃ x, x = hasO ρ.a ref := ⟨_, rfl⟩
    rw [← hhv] at HHAS
    have HHV := Lib.hid hhv
    clear hhv
    go_wp2_with fail
    rw [← hwk2.out]
    clear hwk2 hlk b10
    refine HHAS.out.mono ?_
    rintro e w5 ⟨rfl, hb5⟩
    have HO5 := Lib.hid (HOK.out.keep (sto_all HL.out) hb5)
    have HB5 := Lib.hid (HBK.out.trans (hb5.mono HOK.out.size))
    clear hb5 b9
    cases hv
    · have HE : Hid (keepS σ ref t = ρ) := by show _ = _; rw [HKE.out, ← HHV.out]; rfl
      go_wp2
      go_end0
      rw [HE.out]
      exact ⟨rfl, HO5.out, HB5.out⟩
    · have HE : Hid (keepS σ ref t = { ρ with L := putL ρ.L ref t }) := by show _ = _; rw [HKE.out, ← HHV.out]; rfl
      have b10 : w5.cell? ⟨s, 10, none⟩ = some (.map (some p.m)) := (sto_box HO5.out).cell 10 _ rfl
      have hm5 := sto_map HO5.out
      go_wp2_with (at_mapUpdate; refine map_store (S := BlS) rfl _ _ _ _ rfl rfl rfl hm5 (Nat.lt_of_le_of_lt HWK.out.kept (by have := HFE.out; unfold maxLen; omega)) (k := ref) (v := t) rfl rfl (Nat.le_trans HR.out (by decide)) ?_; intro w6 hm6 hc6)
      have HF := Lib.hid (sto_map_to HL.out HO5.out hc6 hm6)
      clear hm6 hc6 hm5 b10
      go_wp2
      go_end0
      rw [HE.out]
      exact ⟨rfl, HF.out.1, HB5.out.trans HF.out.2⟩
  | some tx =>
    have HOR : Hid (ρ = { τ with d := (feedO τ.d τ.c left tx).2.1, c := (feedO τ.d τ.c left tx).2.2, L := dropL τ.L left }) := hρ.trans (keep_has hf)
    rw [hf] at hlk
    have htx : recB τ.L left = tx := by unfold recB; rw [hf]; rfl
    rw [htx] at hlk
    have hf2 := hf
    clear htx hf hρ
    obtain ⟨wk, hwk⟩ : ∃ wk, wk = w1.alloc (.cells #[.string tx] 134 (0, 0)) := ⟨_, rfl⟩
    have hbk : Below w1.heap.size w1 wk := by rw [hwk]; exact (Below.refl _ _).alloc (Nat.le_refl _) _
    have HO2 : Hid (Own B (stL s p τ ++ BoxP w1.heap.size 134 #[.string tx] :: l) wk.drew) := by
      show Own _ _ _
      rw [hwk]
      exact Own.drew ((fixed_stL s p τ).append (.cons (fixed_box _ _ _) HL.out)) ((HO1.out.alloc (sto_all HL.out) _ _).back (stL s p τ))
    have HB2 := Lib.hid (HB1.out.trans ((hbk.drew).mono HO1.out.size))
    have b11 : wk.drew.cell? ⟨s, 11, none⟩ = some p.cv := (sto_box HO2.out).cell 11 _ rfl
    have bg : wk.drew.cell? ⟨w1.heap.size, 0, none⟩ = some (.string tx) := ((HO2.out.pick (stL s p τ)).boxed).cell 0 _ rfl
    have HFD := Lib.hid (sto_feed (AllF.cons (fixed_box _ _ _) HL.out) HO2.out HWA.out (by have := HFE.out; omega) (HK.out.below HB2.out HBP.out) HBP.out left tx)
    rw [hwk] at b11 bg
    obtain ⟨fd, hfd⟩ : ∃ x, x = (feedO τ.d τ.c left tx).1 := ⟨_, rfl⟩
    obtain ⟨υ, hυ⟩ : ∃ υ, υ = ({ τ with d := (feedO τ.d τ.c left tx).2.1, c := (feedO τ.d τ.c left tx).2.2 } : StD) := ⟨_, rfl⟩
    rw [← hfd, ← hυ, hwk] at HFD
    have HOR2 : Hid (ρ = { υ with L := dropL υ.L left }) := by show _ = _; rw [HOR.out, hυ]
    have hwk2 := Lib.hid hwk
    clear hbk hwk hυ hfd HOR
    go_wp2_with fail
    refine wp_region_tree (fun W => W.cell? ⟨s, 11, none⟩ = some p.cv ∧ W.cell? ⟨w1.heap.size, 0, none⟩ = some (.string tx)) 7 (.quiet 0 (.quiet 1 (.quiet 2 (.quiet 3 (.quiet 4 (.quiet 5 (.quiet 6 .nil))))))) (by kernel_rfl) (by kernel_rfl) ⟨b11, bg⟩ ?_
    simp only [List.drop_succ_cons, List.drop_zero]
    iterate 7 (apply wpTr_step rfl; (intro W hS K hK; obtain ⟨y0, y1⟩ := hS; go_simp; exact hK _ rfl))
    refine wpTr_nil ?_
    go_wp2_with fail
    refine HFD.out.mono ?_
    rintro e w3 ⟨rfl, ho3, hb3⟩
    have HO3 : Hid (Own B (stL s p υ ++ l) w3) := (ho3.pick (stL s p υ)).weak
    have HB3 := Lib.hid (HB2.out.trans (by rw [hwk2.out]; exact hb3))
    clear ho3 hb3 HFD b11 bg HO2 HB2 b10 hlk
    have b10 : w3.cell? ⟨s, 10, none⟩ = some (.map (some p.m)) := (sto_box HO3.out).cell 10 _ rfl
    have hm3 := sto_map HO3.out
    go_wp2_with (at_delete; refine map_delete (S := BlS) rfl _ _ _ _ rfl rfl rfl rfl hm3 (k := left) rfl (Nat.le_trans HLZ.out (by decide)) ?_; intro wk hm4 hc4; have HF4 := Lib.hid (sto_map_to HL.out HO3.out hc4 hm4); have HOK : Hid (Own B (stL s p ρ ++ l) wk) := (by show Own _ _ _; rw [HOR2.out]; exact HF4.out.1); have b9 : wk.cell? ⟨s, 9, none⟩ = some p.av := (sto_box HOK.out).cell 9 _ rfl)
    have HBK := Lib.hid (HB3.out.trans HF4.out.2)
    clear hm4 hc4 hm3 b10
    have HHAS := Lib.hid (sto_has HL.out HOK.out HWK.out ref)
    obtain ⟨hv, hhv⟩ : ∃ x, x = hasO ρ.a ref := ⟨_, rfl⟩
    rw [← hhv] at HHAS
    have HHV := Lib.hid hhv
    clear hhv
    skip
    refine HHAS.out.mono ?_
    rintro e w5 ⟨rfl, hb5⟩
    have HO5 := Lib.hid (HOK.out.keep (sto_all HL.out) hb5)
    have HB5 := Lib.hid (HBK.out.trans (hb5.mono HOK.out.size))
    clear hb5 b9
    cases hv
    · have HE : Hid (keepS σ ref t = ρ) := by show _ = _; rw [HKE.out, ← HHV.out]; rfl
      go_wp2
      go_end0
      rw [HE.out]
      exact ⟨rfl, HO5.out, HB5.out⟩
    · have HE : Hid (keepS σ ref t = { ρ with L := putL ρ.L ref t }) := by show _ = _; rw [HKE.out, ← HHV.out]; rfl
      have b10 : w5.cell? ⟨s, 10, none⟩ = some (.map (some p.m)) := (sto_box HO5.out).cell 10 _ rfl
      have hm5 := sto_map HO5.out
      go_wp2_with (at_mapUpdate; refine map_store (S := BlS) rfl _ _ _ _ rfl rfl rfl hm5 (Nat.lt_of_le_of_lt HWK.out.kept (by have := HFE.out; unfold maxLen; omega)) (k := ref) (v := t) rfl rfl (Nat.le_trans HR.out (by decide)) ?_; intro w6 hm6 hc6)
      have HF := Lib.hid (sto_map_to HL.out HO5.out hc6 hm6)
      clear hm6 hc6 hm5 b10
      go_wp2
      go_end0
      rw [HE.out]
      exact ⟨rfl, HF.out.1, HB5.out.trans HF.out.2⟩
end
end Go.Proofs.YtphhnhldbajaoaaGreatDoor

namespace Go.Proofs.YtphhnhldbajaoaaGreatDoor
open Go.RowKit Go.WideShapes

/-- Places that lie in a block made behind n blocks. -/
def FrS (n : Nat) (a : Option Addr) (l : List (Int × Int)) (w : World) : Prop := SlP w a l ∧ ∀ b off, a = some ⟨b, off, none⟩ → n ≤ b
theorem FrS.nil (n : Nat) (w : World) : FrS n none [] w := ⟨SlP.nil, fun _ _ e => by cases e⟩
set_option maxHeartbeats 1000000 in
theorem decodeF_some (s : ByteArray) (w : World) (hs : s.size ≤ 140737488351232) (h0 : ¬ s.size = 0) (hc : 1 ≤ (valN s 0 1 : Int) ∧ (valN s 0 1 : Int) ≤ 2) : Calls Tryz.prog 42 #[.string s] w fun e w' =>
    ∃ a cap, e = .returned (.tuple #[ptrV a cap (decP s).1, .int .i64 (decP s).2]) ∧ FrS w.heap.size a (decP s).1.locs w' ∧ Below w.heap.size w w' := by
  obtain ⟨hn1, hn2⟩ := str_some s (by omega)
  have HC : Hid (decide (1 ≤ (valN s 0 1 : Int) ∧ (valN s 0 1 : Int) ≤ 2) = true) := decide_eq_true hc
  obtain ⟨c, hcc⟩ : ∃ c, c = valN s 0 1 := ⟨_, rfl⟩
  rw [← hcc] at HC hc
  have HCC := Lib.hid hcc
  clear hcc
  go_enter Tryz.func42, Tryz.ntmps42
  go_wp2_with fail
  refine (read_pos s _).mono ?_
  rintro e w1 ⟨rfl, hr, hb⟩
  have HD := Lib.hid ((Box.new w 37 #[.slice none 0 0, .int .i64 0, .int .i64 0, .string ⟨#[]⟩]).keep hb (by rw [size_alloc]; omega))
  have HB := Lib.hid (((Below.refl w.heap.size w).alloc (Nat.le_refl _) _).trans (hb.mono (by rw [size_alloc]; omega)))
  rw [size_alloc] at hr
  have HR := Lib.hid hr
  clear hr hb
  go_wp2_with fail
  refine (number_pos (w.heap.size + 1) s 0 1 (by decide) (by decide) _ HR.out).mono ?_
  rintro e w2 ⟨rfl, hr, hb⟩
  rw [← HCC.out]
  have HD2 := Lib.hid (hb.box (by omega) HD.out)
  have HB2 := Lib.hid (HB.out.trans (hb.below' (by omega) HB.out.size))
  have HR2 := Lib.hid hr
  clear hr hb HD HB HR
  go_wp2_with fail
  refine (some_any c _).mono ?_
  rintro e w' ⟨rfl, rfl⟩
  rw [HC.out]
  have HI : Hid (DecI w w.heap.size (w.heap.size + 1) w2.heap.size s 0 (.slice none 0 0) (w2.alloc (.cells #[.slice none 0 0, .int .i64 0, .int .i64 0, .string ⟨#[]⟩] 37 (0, 0)))) := by
    have hb : Below w2.heap.size w2 (w2.alloc (.cells #[.slice none 0 0, .int .i64 0, .int .i64 0, .string ⟨#[]⟩] 37 (0, 0))) := (Below.refl _ _).alloc (Nat.le_refl _) _
    exact ⟨Box.new _ _ _, Prs.nil _ _, HR2.out.keepN hb HR2.out.lt, HD2.out.keep hb HD2.out.lt, HB2.out.trans (hb.mono HB2.out.size)⟩
  have HP : Hid (w.heap.size + 1 < w2.heap.size) := HR2.out.lt
  clear HD2 HB2 HR2
  go_wp2_with fail
  generalize hwx : w2.alloc _ = wx
  rw [hwx] at HI
  clear hwx
  generalize w2.heap.size = P at *
  go_loopw [21] (fun i wr => ∃ k : Nat, k ≤ c ∧ i = .int .i64 k ∧ Hid (∃ v, DecI w w.heap.size (w.heap.size + 1) P s k v wr)) (fun i _ => c - (intOf i).toNat)
  case atStart => exact ⟨0, Nat.zero_le _, rfl, ⟨_, HI.out⟩⟩
  case round =>
    clear HI
    obtain ⟨k, hk, rfl, HI⟩ := hrel
    obtain ⟨v, HI⟩ := HI.out
    have hPP : w.heap.size + 1 < P := HP.out
    by_cases hlt : k < c
    · have hk0 : wr.cell? ⟨P, 0, none⟩ = some v := HI.box.cell 0 _ rfl
      have HH := Lib.hid HI
      clear HI
      go_wp2_with fail
      have hk00 : wr.drew.cell? ⟨P, 0, none⟩ = some v := hk0
      go_region_law
        (first
          | (go_simp; go_at_call_of 79 (Value.int .i64 1); refine (number_pos (w.heap.size + 1) s (1 + 3 * k) 1 (by decide) (by decide) _ (by exact HH.out.rd)).mono ?_; rintro e w3 ⟨rfl, hr, hb⟩; have hx := hb.box (by omega) (show Box wr.drew P _ _ from HH.out.box); have hk0 : w3.cell? ⟨P, 0, none⟩ = some v := hx.cell 0 _ rfl; have H3 : Hid (Only (w.heap.size + 1) wr w3) := ⟨hb.os, hb.tape, hb.output, hb.size, hb.block⟩; have R3 : Hid (RdPos w3 (w.heap.size + 1) s (2 + 3 * k)) := (by rw [show 1 + 3 * k + 1 = 2 + 3 * k by omega] at hr; exact hr); clear hb hr hx)
          | (go_simp; go_at_call_of 79 (Value.int .i64 2); refine (number_pos (w.heap.size + 1) s (2 + 3 * k) 2 (by decide) (by decide) _ (by exact R3.out)).mono ?_; rintro e w4 ⟨rfl, hr, hb⟩; have hx := (H3.out.trans hb).box (by omega) HH.out.box; have hk0 : w4.cell? ⟨P, 0, none⟩ = some v := hx.cell 0 _ rfl; have hkA : ∀ o : Obj, (w4.alloc o).cell? ⟨P, 0, none⟩ = some v := (fun o => (hx.alloc o).cell 0 _ rfl); have HX4 := Lib.hid hx; have HL4 : Hid (P < w4.heap.size) := hx.lt; have H4 := Lib.hid (H3.out.trans hb); have R4 := Lib.hid hr; clear hb hr hx)
          | (refine step_prs_push rfl (.tmp 24) (.tmp 30) rfl (P + 1) v _ (by simp [Act.eval]) (by exact (H4.out.row (fun e => by have := HH.out.row.own_block _ e; omega) HH.out.row).alloc _) ⟨w4.heap.size, 0, none⟩ 1 (((valN s (1 + 3 * k) 1 : Nat) : Int), ((valN s (2 + 3 * k) 2 : Nat) : Int)) (by simp [Act.eval]) (by intro j u hj; rw [add_plain, Nat.zero_add]; exact boxed0 w4 _ _ _ j u (by rw [List.getElem?_toArray]; exact hj)) (by simp; omega) (by rw [size_alloc]; have := HL4.out; omega) ?_; intro v5 w5 hp5 hg5; obtain ⟨a5, c5, e5, hs5⟩ := hp5.view; clear hs5; subst e5; have hx5 := (HX4.out.alloc _).of (hg5.block P (by rw [size_alloc]; have := HL4.out; omega) (fun e => by have := HH.out.row.own_block _ e.symm; omega)); have hk0 : w5.cell? ⟨P, 0, none⟩ = some v := hx5.cell 0 _ rfl; have hf5 : w5.frozen? ⟨P, 0, none⟩ = false := hx5.free 0; have HX5 := Lib.hid hx5; have P5 := Lib.hid hp5; have G5 := Lib.hid hg5; clear hp5 hg5 hx5))
      all_goals
        have HN : Hid (DecI w w.heap.size (w.heap.size + 1) P s (k + 1) (.slice a5 (k + 1) c5) (w5.setCell ⟨P, 0, none⟩ (.slice a5 (k + 1) c5))) := by
          refine HH.out.next HP.out (by omega) (Nat.le_refl _) H4.out (by have := R4.out; rwa [show 2 + 3 * k + 2 = 1 + 3 * (k + 1) by omega] at this) HX5.out G5.out ?_
          rw [locs_snoc]
          have := P5.out
          rwa [show ((List.range k).map (locAt s) ++ [(((valN s (1 + 3 * k) 1 : Nat) : Int), ((valN s (2 + 3 * k) 2 : Nat) : Int))]).length = k + 1 by simp] at this
        clear hk00 hkA hk0 hf5 HX4 HX5 P5 G5 H3 R3 H4 R4 HH
        go_wp2
        go_roundw
        case rel => exact ⟨k + 1, by omega, by go_num, ⟨_, HN.out⟩⟩
        case measure => simp [intOf]; omega
    · have hkc : k = c := by omega
      subst hkc
      clear hlt hk
      obtain ⟨av, cv, rfl, hsv⟩ := HI.row.view
      clear hsv
      have T0 : Hid (DecT w w.heap.size (w.heap.size + 1) P s (1 + 3 * k) #[.slice av ((List.range k).map (locAt s)).length cv, .int .i64 0, .int .i64 0, .string ⟨#[]⟩] (.slice av ((List.range k).map (locAt s)).length cv) ((List.range k).map (locAt s)) wr) :=
        ⟨HI.box, HI.row, HI.rd, HI.res, HI.bel, hPP, Nat.lt_succ_self _, Nat.le_refl _⟩
      clear HI hPP
      go_wp2_with fail
      refine (number_pos (w.heap.size + 1) s (1 + 3 * k) 2 (by decide) (by decide) _ (by exact T0.out.rd)).mono ?_
      rintro e w3 ⟨rfl, hr, hb⟩
      rw [show 1 + 3 * k + 2 = 3 + 3 * k by omega] at hr
      have T1 := Lib.hid (T0.out.call hb hr)
      have hf := T1.out.box.free 1
      have hc1 : w3.cell? ⟨P, 1, none⟩ = some (.int .i64 0) := T1.out.box.cell 1 _ rfl
      clear hb hr T0
      go_wp2_with fail
      generalize hwx : w3.setCell _ _ = wx
      have T2 := Lib.hid (T1.out.put 1 (.int .i64 (valN s (1 + 3 * k) 2 : Nat)))
      rw [hwx] at T2
      clear hwx hf hc1 T1
      refine (number_pos (w.heap.size + 1) s (3 + 3 * k) 6 (by decide) (by decide) _ (by exact T2.out.rd)).mono ?_
      rintro e w4 ⟨rfl, hr, hb⟩
      rw [show 3 + 3 * k + 6 = 9 + 3 * k by omega] at hr
      have T3 := Lib.hid (T2.out.call hb hr)
      have hf := T3.out.box.free 2
      have hc2 : w4.cell? ⟨P, 2, none⟩ = some (.int .i64 0) := T3.out.box.cell 2 _ rfl
      clear hb hr T2
      go_wp2_with fail
      generalize hwx : w4.setCell _ _ = wy
      have T4 := Lib.hid (T3.out.put 2 (.int .i64 (valN s (3 + 3 * k) 6 : Nat)))
      rw [hwx] at T4
      clear hwx hf hc2 T3
      refine (bytes_pos (w.heap.size + 1) s (9 + 3 * k) 32 _ (by exact T4.out.rd)).mono ?_
      rintro e w5 ⟨rfl, hr, hb⟩
      rw [show 9 + 3 * k + 32 = 41 + 3 * k by omega] at hr
      have T5 := Lib.hid (T4.out.call hb hr)
      have hf := T5.out.box.free 3
      have hc3 : w5.cell? ⟨P, 3, none⟩ = some (.string ⟨#[]⟩) := T5.out.box.cell 3 _ rfl
      clear hb hr T4
      go_wp2_with fail
      generalize hwx : w5.setCell _ _ = wz
      have T6 := Lib.hid (T5.out.put 3 (.string (valB s (9 + 3 * k) 32)))
      rw [hwx] at T6
      clear hwx hf hc3 T5
      refine (end_pos (w.heap.size + 1) s (41 + 3 * k) _ (by exact T6.out.rd)).mono ?_
      rintro e w' ⟨rfl, rfl⟩
      have hD0 := T6.out.res.free 0
      have hD1 := T6.out.res.free 1
      have hD2 := T6.out.res.free 2
      have hD3 := T6.out.res.free 3
      have hE0 : wz.cell? ⟨w.heap.size, 0, none⟩ = some (.slice none 0 0) := T6.out.res.cell 0 _ rfl
      have hE1 : wz.cell? ⟨w.heap.size, 1, none⟩ = some (.int .i64 0) := T6.out.res.cell 1 _ rfl
      have hE2 : wz.cell? ⟨w.heap.size, 2, none⟩ = some (.int .i64 0) := T6.out.res.cell 2 _ rfl
      have hE3 : wz.cell? ⟨w.heap.size, 3, none⟩ = some (.string ⟨#[]⟩) := T6.out.res.cell 3 _ rfl
      have hVV : Hid (valN s 0 1 = k) := HCC.out.symm
      have hN12 : Hid (¬ (valN s 0 1 < 1 ∨ 2 < valN s 0 1)) := by show ¬ _; rw [hVV.out]; omega
      by_cases he : posEnd s (41 + 3 * k) = 0
      · have hq : (posEnd s (41 + 3 * k) != 0) = false := by simpa using he
        have hSlP : SlP wz av (rawP s k).locs := by
          obtain ⟨a', c', e', h'⟩ := T6.out.row.view
          injection e' with e1 e2 e3
          subst e1
          exact h'
        have hlk : (rawP s k).locs.length = k := by simp [rawP]
        have HS := Lib.hid hSlP
        have HPV : Hid (ptrV av cv (rawP s k) = .agg #[.slice av k cv, .int .i64 (valN s (1 + 3 * k) 2 : Nat), .int .i64 (valN s (3 + 3 * k) 6 : Nat), .string (valB s (9 + 3 * k) 32)]) := by
          show _ = _
          unfold ptrV
          rw [hlk]; rfl
        have hchk := check_any av cv (rawP s k) wz hSlP (by rw [hlk]; omega)
        rw [HPV.out] at hchk
        have HCK := Lib.hid hchk
        have HLK := Lib.hid hlk
        have hk0 : wz.cell? ⟨P, 0, none⟩ = some (.slice av k cv) := by have := T6.out.box.cell 0 _ rfl; rw [this]; simp
        have hk1 : wz.cell? ⟨P, 1, none⟩ = some (.int .i64 (valN s (1 + 3 * k) 2 : Nat)) := T6.out.box.cell 1 _ rfl
        have hk2 : wz.cell? ⟨P, 2, none⟩ = some (.int .i64 (valN s (3 + 3 * k) 6 : Nat)) := T6.out.box.cell 2 _ rfl
        have hk3 : wz.cell? ⟨P, 3, none⟩ = some (.string (valB s (9 + 3 * k) 32)) := T6.out.box.cell 3 _ rfl
        clear hchk hSlP hlk
        go_wp2_with fail
        refine HCK.out.mono ?_
        rintro e wc ⟨rfl, hb⟩
        have T7 := Lib.hid (T6.out.call (w' := wc) (pos' := 41 + 3 * k) (Only.of hb (Nat.le_refl _)) (T6.out.rd.keepN hb T6.out.rd.lt))
        have HS7 := Lib.hid (HS.out.keep hb)
        have hd0 := T7.out.res.free 0
        have hd1 := T7.out.res.free 1
        have hd2 := T7.out.res.free 2
        have hd3 := T7.out.res.free 3
        have he0 : wc.cell? ⟨w.heap.size, 0, none⟩ = some (.slice none 0 0) := T7.out.res.cell 0 _ rfl
        have he1 : wc.cell? ⟨w.heap.size, 1, none⟩ = some (.int .i64 0) := T7.out.res.cell 1 _ rfl
        have he2 : wc.cell? ⟨w.heap.size, 2, none⟩ = some (.int .i64 0) := T7.out.res.cell 2 _ rfl
        have he3 : wc.cell? ⟨w.heap.size, 3, none⟩ = some (.string ⟨#[]⟩) := T7.out.res.cell 3 _ rfl
        clear hb hk0 hk1 hk2 hk3 hD0 hD1 hD2 hD3 hE0 hE1 hE2 hE3
        by_cases hbad : badP (rawP s k)
        · have HE : Hid (decP s = (nilP, 3)) := by
            show _ = _
            unfold decP
            rw [if_neg h0, if_neg hN12.out, hVV.out, if_neg (by simpa using he), if_pos hbad]
          rw [show chkP (rawP s k) = 1 from if_pos hbad]
          have HR := Lib.hid (T7.out.ret (.slice none 0 0) (.int .i64 0) (.int .i64 0) (.string ⟨#[]⟩))
          go_wp2
          refine bodyPost_ret (results_cell_row_tmp rfl _ _ w.heap.size 37 _ (0, 0) _ rfl HR.out.1 Tryz.underlying37 rfl sizePtr) rfl ?_
          exact ⟨none, 0, by rw [HE.out]; rfl, by rw [HE.out]; exact FrS.nil _ _, T7.out.bel.trans (HR.out.2.below' (Nat.le_refl _) T7.out.bel.size)⟩
        · have HE : Hid (decP s = (rawP s k, 0)) := by
            show _ = _
            unfold decP
            rw [if_neg h0, if_neg hN12.out, hVV.out, if_neg (by simpa using he), if_neg hbad]
          rw [show chkP (rawP s k) = 0 from if_neg hbad]
          have hk0 : wc.cell? ⟨P, 0, none⟩ = some (.slice av k cv) := by have := T7.out.box.cell 0 _ rfl; rw [this]; simp
          have hk1 : wc.cell? ⟨P, 1, none⟩ = some (.int .i64 (valN s (1 + 3 * k) 2 : Nat)) := T7.out.box.cell 1 _ rfl
          have hk2 : wc.cell? ⟨P, 2, none⟩ = some (.int .i64 (valN s (3 + 3 * k) 6 : Nat)) := T7.out.box.cell 2 _ rfl
          have hk3 : wc.cell? ⟨P, 3, none⟩ = some (.string (valB s (9 + 3 * k) 32)) := T7.out.box.cell 3 _ rfl
          have HR := Lib.hid (T7.out.ret (.slice av k cv) (.int .i64 (valN s (1 + 3 * k) 2 : Nat)) (.int .i64 (valN s (3 + 3 * k) 6 : Nat)) (.string (valB s (9 + 3 * k) 32)))
          go_wp2
          refine bodyPost_ret (results_cell_row_tmp rfl _ _ w.heap.size 37 _ (0, 0) _ rfl HR.out.1 Tryz.underlying37 rfl sizePtr) rfl ?_
          refine ⟨av, cv, by rw [HE.out, HPV.out]; rfl, ?_, T7.out.bel.trans (HR.out.2.below' (Nat.le_refl _) T7.out.bel.size)⟩
          rw [HE.out]
          refine ⟨?_, fun b off e1 => by have h9 := T7.out.row.own_block b (by rw [e1]; rfl); have := HP.out; omega⟩
          intro hne
          obtain ⟨b, off, e1, hl1, hc1⟩ := HS7.out hne
          refine ⟨b, off, e1, Nat.lt_of_lt_of_le hl1 HR.out.2.size, fun i x hx => ?_⟩
          have hbD : b ≠ w.heap.size := by
            have := T7.out.row.own_block b (by rw [e1]; rfl)
            have := HP.out
            omega
          have hblk := HR.out.2.block b hl1 (fun e => hbD (by injection e))
          exact ⟨(World.cell?_of_block (a := ⟨b, _, none⟩) hblk).trans (hc1 i x hx).1, (World.cell?_of_block (a := ⟨b, _, none⟩) hblk).trans (hc1 i x hx).2⟩
      · have hq : (posEnd s (41 + 3 * k) != 0) = true := by simpa using he
        have HE : Hid (decP s = (nilP, posEnd s (41 + 3 * k))) := by
          show _ = _
          unfold decP
          rw [if_neg h0, if_neg hN12.out, hVV.out, if_pos he]
        have HR := Lib.hid (T6.out.ret (.slice none 0 0) (.int .i64 0) (.int .i64 0) (.string ⟨#[]⟩))
        go_wp2
        refine bodyPost_ret (results_cell_row_tmp rfl _ _ w.heap.size 37 _ (0, 0) _ rfl HR.out.1 Tryz.underlying37 rfl sizePtr) rfl ?_
        exact ⟨none, 0, by rw [HE.out]; rfl, by rw [HE.out]; exact FrS.nil _ _, T6.out.bel.trans (HR.out.2.below' (Nat.le_refl _) T6.out.bel.size)⟩

theorem decodeF_bad (s : ByteArray) (w : World) (hs : s.size ≤ 140737488351232) (h0 : ¬ s.size = 0) (hc : ¬ (1 ≤ (valN s 0 1 : Int) ∧ (valN s 0 1 : Int) ≤ 2)) : Calls Tryz.prog 42 #[.string s] w fun e w' =>
    ∃ a cap, e = .returned (.tuple #[ptrV a cap (decP s).1, .int .i64 (decP s).2]) ∧ FrS w.heap.size a (decP s).1.locs w' ∧ Below w.heap.size w w' := by
  obtain ⟨hn1, hn2⟩ := str_some s (by omega)
  have HC : Hid (decide (1 ≤ (valN s 0 1 : Int) ∧ (valN s 0 1 : Int) ≤ 2) = false) := decide_eq_false hc
  have HE : Hid (decP s = (nilP, 3)) := by
    show _ = _
    unfold decP
    rw [if_neg h0, if_pos (by omega)]
  clear hc
  go_enter Tryz.func42, Tryz.ntmps42
  go_wp2_with fail
  refine (read_pos s _).mono ?_
  rintro e w1 ⟨rfl, hr, hb⟩
  have HD := Lib.hid ((Box.new w 37 #[.slice none 0 0, .int .i64 0, .int .i64 0, .string ⟨#[]⟩]).keep hb (by rw [size_alloc]; omega))
  have HB := Lib.hid (((Below.refl w.heap.size w).alloc (Nat.le_refl _) _).trans (hb.mono (by rw [size_alloc]; omega)))
  rw [size_alloc] at hr
  have HR := Lib.hid hr
  clear hr hb
  go_wp2_with fail
  refine (number_pos (w.heap.size + 1) s 0 1 (by decide) (by decide) _ HR.out).mono ?_
  rintro e w2 ⟨rfl, hr, hb⟩
  have HD2 := Lib.hid (hb.box (by omega) HD.out)
  have HB2 := Lib.hid (HB.out.trans (hb.below' (by omega) HB.out.size))
  clear hr hb HD HB HR
  have hD0 := HD2.out.free 0
  have hD1 := HD2.out.free 1
  have hD2 := HD2.out.free 2
  have hD3 := HD2.out.free 3
  have hE0 : w2.cell? ⟨w.heap.size, 0, none⟩ = some (.slice none 0 0) := HD2.out.cell 0 _ rfl
  have hE1 : w2.cell? ⟨w.heap.size, 1, none⟩ = some (.int .i64 0) := HD2.out.cell 1 _ rfl
  have hE2 : w2.cell? ⟨w.heap.size, 2, none⟩ = some (.int .i64 0) := HD2.out.cell 2 _ rfl
  have hE3 : w2.cell? ⟨w.heap.size, 3, none⟩ = some (.string ⟨#[]⟩) := HD2.out.cell 3 _ rfl
  go_wp2_with fail
  refine (some_any (valN s 0 1) _).mono ?_
  rintro e w' ⟨rfl, rfl⟩
  rw [HC.out]
  have HR := Lib.hid (retBox HD2.out (.slice none 0 0) (.int .i64 0) (.int .i64 0) (.string ⟨#[]⟩))
  go_wp2
  refine bodyPost_ret (results_cell_row_tmp rfl _ _ w.heap.size 37 _ (0, 0) _ rfl HR.out.1 Tryz.underlying37 rfl sizePtr) rfl ?_
  exact ⟨none, 0, by rw [HE.out]; rfl, by rw [HE.out]; exact FrS.nil _ _, HB2.out.trans (HR.out.2.below' (Nat.le_refl _) HB2.out.size)⟩

theorem decodeF_nil (s : ByteArray) (w : World) (h0 : s.size = 0) : Calls Tryz.prog 42 #[.string s] w fun e w' =>
    ∃ a cap, e = .returned (.tuple #[ptrV a cap (decP s).1, .int .i64 (decP s).2]) ∧ FrS w.heap.size a (decP s).1.locs w' ∧ Below w.heap.size w w' := by
  have HE : Hid (decP s = (nilP, 2)) := by
    show _ = _
    unfold decP
    rw [if_pos h0]
  obtain rfl : s = ⟨#[]⟩ := by apply ByteArray.ext; exact Array.eq_empty_of_size_eq_zero h0
  have HV : Hid (valN ⟨#[]⟩ 0 1 = 0) := by show _ = _; rfl
  go_enter Tryz.func42, Tryz.ntmps42
  go_wp2_with fail
  refine (read_pos ⟨#[]⟩ _).mono ?_
  rintro e w1 ⟨rfl, hr, hb⟩
  have HD := Lib.hid ((Box.new w 37 #[.slice none 0 0, .int .i64 0, .int .i64 0, .string ⟨#[]⟩]).keep hb (by rw [size_alloc]; omega))
  have HB := Lib.hid (((Below.refl w.heap.size w).alloc (Nat.le_refl _) _).trans (hb.mono (by rw [size_alloc]; omega)))
  rw [size_alloc] at hr
  have HR := Lib.hid hr
  clear hr hb
  go_wp2_with fail
  refine (number_pos (w.heap.size + 1) ⟨#[]⟩ 0 1 (by decide) (by decide) _ HR.out).mono ?_
  rintro e w2 ⟨rfl, hr, hb⟩
  rw [HV.out]
  have HD2 := Lib.hid (hb.box (by omega) HD.out)
  have HB2 := Lib.hid (HB.out.trans (hb.below' (by omega) HB.out.size))
  have HR2 := Lib.hid hr
  clear hr hb HD HB HR
  have T0 : Hid (DecT w w.heap.size (w.heap.size + 1) w2.heap.size ⟨#[]⟩ 1 #[.slice none 0 0, .int .i64 0, .int .i64 0, .string ⟨#[]⟩] (.slice none 0 0) [] (w2.alloc (.cells #[.slice none 0 0, .int .i64 0, .int .i64 0, .string ⟨#[]⟩] 37 (0, 0)))) := by
    have hb : Below w2.heap.size w2 (w2.alloc (.cells #[.slice none 0 0, .int .i64 0, .int .i64 0, .string ⟨#[]⟩] 37 (0, 0))) := (Below.refl _ _).alloc (Nat.le_refl _) _
    exact ⟨Box.new _ _ _, Prs.nil _ _, HR2.out.keepN hb HR2.out.lt, HD2.out.keep hb HD2.out.lt, HB2.out.trans (hb.mono HB2.out.size), HR2.out.lt, Nat.lt_succ_self _, Nat.le_refl _⟩
  clear HD2 HB2 HR2
  go_wp2_with fail
  generalize hwx : w2.alloc _ = wr
  rw [hwx] at T0
  clear hwx
  generalize w2.heap.size = P at *
  refine wp_loop_rounds 1 ?_
  rw [rounds_succ]
  go_wp2_with fail
  refine (number_pos (w.heap.size + 1) ⟨#[]⟩ 1 2 (by decide) (by decide) _ (by exact T0.out.rd)).mono ?_
  rintro e w3 ⟨rfl, hr, hb⟩
  have T1 := Lib.hid (T0.out.call hb hr)
  have hf := T1.out.box.free 1
  have hc1 : w3.cell? ⟨P, 1, none⟩ = some (.int .i64 0) := T1.out.box.cell 1 _ rfl
  clear hb hr T0
  go_wp2_with fail
  generalize hwx : w3.setCell _ _ = wx
  have T2 := Lib.hid (T1.out.put 1 (.int .i64 (valN ⟨#[]⟩ 1 2 : Nat)))
  rw [hwx] at T2
  clear hwx hf hc1 T1
  refine (number_pos (w.heap.size + 1) ⟨#[]⟩ (1 + 2) 6 (by decide) (by decide) _ (by exact T2.out.rd)).mono ?_
  rintro e w4 ⟨rfl, hr, hb⟩
  have T3 := Lib.hid (T2.out.call hb hr)
  have hf := T3.out.box.free 2
  have hc2 : w4.cell? ⟨P, 2, none⟩ = some (.int .i64 0) := T3.out.box.cell 2 _ rfl
  clear hb hr T2
  go_wp2_with fail
  generalize hwx : w4.setCell _ _ = wy
  have T4 := Lib.hid (T3.out.put 2 (.int .i64 (valN ⟨#[]⟩ (1 + 2) 6 : Nat)))
  rw [hwx] at T4
  clear hwx hf hc2 T3
  refine (bytes_pos (w.heap.size + 1) ⟨#[]⟩ (1 + 2 + 6) 32 _ (by exact T4.out.rd)).mono ?_
  rintro e w5 ⟨rfl, hr, hb⟩
  have T5 := Lib.hid (T4.out.call hb hr)
  have hf := T5.out.box.free 3
  have hc3 : w5.cell? ⟨P, 3, none⟩ = some (.string ⟨#[]⟩) := T5.out.box.cell 3 _ rfl
  clear hb hr T4
  go_wp2_with fail
  generalize hwx : w5.setCell _ _ = wz
  have T6 := Lib.hid (T5.out.put 3 (.string (valB ⟨#[]⟩ (1 + 2 + 6) 32)))
  rw [hwx] at T6
  clear hwx hf hc3 T5
  refine (end_pos (w.heap.size + 1) ⟨#[]⟩ (1 + 2 + 6 + 32) _ (by exact T6.out.rd)).mono ?_
  rintro e w' ⟨rfl, rfl⟩
  rw [show posEnd ⟨#[]⟩ (1 + 2 + 6 + 32) = 2 from by decide +kernel]
  have hD0 := T6.out.res.free 0
  have hD1 := T6.out.res.free 1
  have hD2 := T6.out.res.free 2
  have hD3 := T6.out.res.free 3
  have hE0 : wz.cell? ⟨w.heap.size, 0, none⟩ = some (.slice none 0 0) := T6.out.res.cell 0 _ rfl
  have hE1 : wz.cell? ⟨w.heap.size, 1, none⟩ = some (.int .i64 0) := T6.out.res.cell 1 _ rfl
  have hE2 : wz.cell? ⟨w.heap.size, 2, none⟩ = some (.int .i64 0) := T6.out.res.cell 2 _ rfl
  have hE3 : wz.cell? ⟨w.heap.size, 3, none⟩ = some (.string ⟨#[]⟩) := T6.out.res.cell 3 _ rfl
  have HR := Lib.hid (T6.out.ret (.slice none 0 0) (.int .i64 0) (.int .i64 0) (.string ⟨#[]⟩))
  go_wp2
  refine bodyPost_ret (results_cell_row_tmp rfl _ _ w.heap.size 37 _ (0, 0) _ rfl HR.out.1 Tryz.underlying37 rfl sizePtr) rfl ?_
  exact ⟨none, 0, by rw [HE.out]; rfl, by rw [HE.out]; exact FrS.nil _ _, T6.out.bel.trans (HR.out.2.below' (Nat.le_refl _) T6.out.bel.size)⟩

theorem decodeF_any (s : ByteArray) (w : World) (hs : s.size ≤ 140737488351232) : Calls Tryz.prog 42 #[.string s] w fun e w' =>
    ∃ a cap, e = .returned (.tuple #[ptrV a cap (decP s).1, .int .i64 (decP s).2]) ∧ FrS w.heap.size a (decP s).1.locs w' ∧ Below w.heap.size w w' := by
  by_cases h0 : s.size = 0
  · exact decodeF_nil s w h0
  · by_cases hc : 1 ≤ (valN s 0 1 : Int) ∧ (valN s 0 1 : Int) ≤ 2
    · exact decodeF_some s w hs h0 hc
    · exact decodeF_bad s w hs h0 hc
end Go.Proofs.YtphhnhldbajaoaaGreatDoor
