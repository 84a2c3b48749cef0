/-
  Package second: the entries of places; entryOf.
-/
import Derived.Test.YtphhnhldbajaoaaGreatDoorMg21
namespace Go.Proofs.YtphhnhldbajaoaaGreatDoor
open Go Go.RowKit Go.Shelf Go.ChangeShapes Go.WideShapes Go.ChangeAt

attribute [local go_sem] Oper.semAt_some

/-- The entries of the places from fr on, up to k. -/
def amongK (e : List EnD) (f fr k : Nat) : List CgE := (List.range' fr (k - fr)).filterMap (fun p => findS e (secN f p))
theorem amongK_none (e : List EnD) (f fr k : Nat) (h : k ≤ fr) : amongK e f fr k = [] := by unfold amongK; rw [Nat.sub_eq_zero_of_le h]; rfl
theorem amongK_succ (e : List EnD) (f fr k : Nat) (h : fr ≤ k) : amongK e f fr (k + 1) = amongK e f fr k ++ (findS e (secN f k)).toList := by
  unfold amongK
  rw [show k + 1 - fr = (k - fr) + 1 by omega, List.range'_1_concat, List.filterMap_append, show fr + (k - fr) = k by omega]
  congr 1
theorem amongK_len (e : List EnD) (f fr k : Nat) : (amongK e f fr k).length ≤ k - fr := by
  unfold amongK
  exact Nat.le_trans (List.length_filterMap_le _ _) (by simp)
theorem amongK_app (e : List EnD) (f fr k n : Nat) (h : fr ≤ k) : ∃ r, amongK e f fr (k + n) = amongK e f fr k ++ r := by
  induction n with
  | zero => exact ⟨[], by simp⟩
  | succ n ih =>
    obtain ⟨r, hr⟩ := ih
    rw [← Nat.add_assoc, amongK_succ e f fr (k + n) (by omega), hr]
    exact ⟨r ++ _, by rw [List.append_assoc]⟩
/-- The entry of a key: of several, that of the first place. -/
def entOf (x : SecD) (key : ByteArray) : Option CgE := (amongK x.e x.f 0 (roomN x.n)).find? (fun y => decide (y.key = key))
theorem entOf_at {x : SecD} {key : ByteArray} {k : Nat} {y : CgE} (h : ∀ z ∈ amongK x.e x.f 0 k, z.key ≠ key) (hk : k < roomN x.n) (hy : findS x.e (secN x.f k) = some y) (he : y.key = key) : entOf x key = some y := by
  unfold entOf
  obtain ⟨r, hr⟩ := amongK_app x.e x.f 0 (k + 1) (roomN x.n - (k + 1)) (Nat.zero_le _)
  rw [show k + 1 + (roomN x.n - (k + 1)) = roomN x.n by omega] at hr
  rw [hr, amongK_succ _ _ _ _ (Nat.zero_le _), hy, List.append_assoc, List.find?_append, List.find?_eq_none.2 (fun z hz => by simpa using h z hz)]
  simp [he]
theorem entOf_no {x : SecD} {key : ByteArray} (h : ∀ z ∈ amongK x.e x.f 0 (roomN x.n), z.key ≠ key) : entOf x key = none := by
  unfold entOf
  rw [List.find?_eq_none]
  intro z hz
  simpa using h z hz
def noE : CgE := ⟨⟨#[]⟩, ⟨#[]⟩, 0, 0⟩
theorem nat_wf {k : Nat} (h : k < 1000000) : (Lit.int .i64 (k : Int)).wf = true := by
  have h3 : IntKind.i64.min ≤ (k : Int) ∧ (k : Int) ≤ IntKind.i64.max := by
    rw [show IntKind.i64.min = -9223372036854775808 from rfl, show IntKind.i64.max = 9223372036854775807 from rfl]
    omega
  simpa [Lit.wf] using h3
abbrev cgA (y : CgE) : Array Value := #[.string y.key, .string y.sum, .int .i64 y.len, .int .i64 y.pos]

def EoJ (w X : World) (g q : Nat) (x : SecD) (key : ByteArray) (k : Nat) (W : World) : Prop := Below g w W ∧ SameLow g (q + 3) X W ∧ ∀ z ∈ amongK x.e x.f 0 k, z.key ≠ key
def EoX (w : World) (g q : Nat) (x : SecD) (key : ByteArray) (W : World) : Prop := Below g w W ∧ q + 3 ≤ W.heap.size ∧ ∃ y, Box W (g + 2) 170 (cgA y) ∧ Box W (g + 3) 4 #[.bool true] ∧ entOf x key = some y
/-- Two results, a struct that lies in a block and a cell. -/
theorem results_bc {P : Program} {fn : Func} {p q : Tmp} {ty t2 : TypeId} (h : fn.results = #[.cell p ty, .cell q t2]) (tmps : Array Value) (w : World) (g : Nat) (a2 : Addr) (t : TypeId) (cs : Array Value) (fr : Nat × Nat) (d : TypeDesc) (v2 : Value)
    (hp : tmps.getD p undef = .pointer (some ⟨g, 0, none⟩)) (hq : tmps.getD q undef = .pointer (some a2)) (hg : w.heap[g]? = some (.cells cs t fr))
    (hu : P.underlying ty = some d) (hd : (match d with | .struct _ | .array _ _ => true | _ => false) = true) (hi : (P.info? ty).map (·.size) = some cs.size)
    (g2 : (isAgg t2).run P w = .ok false w) (h2 : w.cell? a2 = some v2) : (results fn tmps).run P w = .ok (.tuple #[.agg cs, v2]) w := by
  have hp' : tmps[p]?.getD undef = .pointer (some ⟨g, 0, none⟩) := by simpa using hp
  have hq' : tmps[q]?.getD undef = .pointer (some a2) := by simpa using hq
  have hl := run_loadVar_row w g t ty cs fr d hg hu hd hi
  have hl2 : (loadVar t2 a2).run P w = .ok v2 w := by simp [loadVar, Sem.run_bind, g2, h2, go_sem]
  simp [results, h, hp', hq', asAddr, Sem.run_bind, hl, hl2, Result.andThen]
theorem sizeEnt : (Tryz.prog.info? 170).map (·.size) = some 4 := by kernel_rfl

/-- An entry and a bool, stored to. -/
theorem five_set {W : World} {a b : Nat} {t1 t2 : TypeId} {u0 u1 u2 u3 u4 : Value} (h1 : Box W a t1 #[u0, u1, u2, u3]) (h2 : Box W b t2 #[u4]) (hab : a ≠ b) (v0 v1 v2 v3 v4 : Value) :
    Box (((((W.setCell ⟨a, 0, none⟩ v0).setCell ⟨a, 1, none⟩ v1).setCell ⟨a, 2, none⟩ v2).setCell ⟨a, 3, none⟩ v3).setCell ⟨b, 0, none⟩ v4) a t1 #[v0, v1, v2, v3] ∧
    Box (((((W.setCell ⟨a, 0, none⟩ v0).setCell ⟨a, 1, none⟩ v1).setCell ⟨a, 2, none⟩ v2).setCell ⟨a, 3, none⟩ v3).setCell ⟨b, 0, none⟩ v4) b t2 #[v4] ∧
    Chg [a, b] W (((((W.setCell ⟨a, 0, none⟩ v0).setCell ⟨a, 1, none⟩ v1).setCell ⟨a, 2, none⟩ v2).setCell ⟨a, 3, none⟩ v3).setCell ⟨b, 0, none⟩ v4) := by
  have e := fun (X : World) (x y j : Nat) (v : Value) (h : y ≠ x) => heap_setCell_other X ⟨x, j, none⟩ y v h
  refine ⟨((((h1.set 0 v0).set 1 v1).set 2 v2).set 3 v3).of (e _ b a 0 v4 hab), Box.set ((((h2.of (e _ a b 0 v0 (Ne.symm hab))).of (e _ a b 1 v1 (Ne.symm hab))).of (e _ a b 2 v2 (Ne.symm hab))).of (e _ a b 3 v3 (Ne.symm hab))) 0 v4, ?_⟩
  exact (((((Chg.refl [a, b] W).set a 0 v0 (.inl (by simp))).set a 1 v1 (.inl (by simp))).set a 2 v2 (.inl (by simp))).set a 3 v3 (.inl (by simp))).set b 0 v4 (.inl (by simp))

set_option maxRecDepth 100000 in
set_option maxHeartbeats 2000000 in
theorem entryof_in (s b m : Nat) (x : SecD) (key : ByteArray) (w : World) (h : SecAt w s b m x) (hx : x.f ≤ 512) (hn : x.n ≤ 512) :
    CallsIn Fence.wide 6 Tryz.prog 123 #[.pointer (some ⟨s, 0, none⟩), .string key] w fun e w' => e = .returned (.tuple #[cgV ((entOf x key).getD noE), .bool (entOf x key).isSome]) ∧ Below w.heap.size w w' := by
  have B0 := Box.new w 90 #[.pointer (some ⟨s, 0, none⟩)]
  have B1 := Box.new (w.alloc (.cells #[.pointer (some ⟨s, 0, none⟩)] 90)) 9 #[.string key]
  have B2 := Box.new ((w.alloc (.cells #[.pointer (some ⟨s, 0, none⟩)] 90)).alloc (.cells #[.string key] 9)) 170 #[.string ⟨#[]⟩, .string ⟨#[]⟩, .int .i64 0, .int .i64 0]
  have B3 := Box.new (((w.alloc (.cells #[.pointer (some ⟨s, 0, none⟩)] 90)).alloc (.cells #[.string key] 9)).alloc (.cells #[.string ⟨#[]⟩, .string ⟨#[]⟩, .int .i64 0, .int .i64 0] 170)) 4 #[.bool false]
  simp only [size_alloc] at B1 B2 B3
  have hb0 : Below w.heap.size w ((((w.alloc (.cells #[.pointer (some ⟨s, 0, none⟩)] 90)).alloc (.cells #[.string key] 9)).alloc (.cells #[.string ⟨#[]⟩, .string ⟨#[]⟩, .int .i64 0, .int .i64 0] 170)).alloc (.cells #[.bool false] 4)) := ((((Below.refl _ w).alloc (Nat.le_refl _) _).alloc (by rw [size_alloc]; omega) _).alloc (by simp only [size_alloc]; omega) _).alloc (by simp only [size_alloc]; omega) _
  have HB0 := Lib.hid hb0
  have HA3 := Lib.hid B3
  have HA2 := Lib.hid (B2.alloc (.cells #[.bool false] 4))
  have HA1 := Lib.hid ((B1.alloc (.cells #[.string ⟨#[]⟩, .string ⟨#[]⟩, .int .i64 0, .int .i64 0] 170)).alloc (.cells #[.bool false] 4))
  have HA0 := Lib.hid (((B0.alloc (.cells #[.string key] 9)).alloc (.cells #[.string ⟨#[]⟩, .string ⟨#[]⟩, .int .i64 0, .int .i64 0] 170)).alloc (.cells #[.bool false] 4))
  have HS := Lib.hid h
  have HX := Lib.hid hx
  have HN := Lib.hid hn
  clear h hx hn B0 B1 B2 B3 hb0
  refine callsIn_of_wp_marks Tryz.func123 rfl trivial ?_ rfl
  simp only [Tryz.ntmps123, List.size_toArray, List.length_cons, List.length_nil, Nat.reduceAdd, Nat.reduceSub, Array.replicate_succ, Array.replicate_zero, List.push_toArray, List.append_toArray, List.nil_append, List.cons_append]
  gi_wp2_with fail
  generalize hW1 : (((w.alloc (.cells #[.pointer (some ⟨s, 0, none⟩)] 90)).alloc (.cells #[.string key] 9)).alloc (.cells #[.string ⟨#[]⟩, .string ⟨#[]⟩, .int .i64 0, .int .i64 0] 170)).alloc (.cells #[.bool false] 4) = W1 at *
  have hz1 : W1.heap.size = w.heap.size + 4 := by rw [← hW1]; simp only [size_alloc]
  clear hW1
  obtain ⟨g, hg⟩ : ∃ g, g = w.heap.size := ⟨_, rfl⟩
  rw [← hg] at HB0 HA0 HA1 HA2 HA3 hz1 ⊢
  have HG := Lib.hid hg
  have HZ1 := Lib.hid hz1
  have hb1 := (HB0.out.drew)
  have a0 := HA0.out.cell 0 _ rfl
  clear hg hz1
  simp only [Nat.add_assoc, Nat.reduceAdd] at HA2 HA3 ⊢
  have HK1 : Hid (Box W1.drew s 158 (secC b m x)) := HS.out.box.keep hb1 (by rw [HG.out]; exact HS.out.box.lt)
  clear hb1
  refine wpIn_wide.2 ?_
  refine wp_region_tree (fun W => W.cell? ⟨g, 0, none⟩ = some (.pointer (some ⟨s, 0, none⟩))) 3 (.quiet 0 (.quiet 1 (.make 2 .nil))) (by kernel_rfl) (by kernel_rfl) a0 ?_
  simp only [List.drop_succ_cons, List.drop_zero]
  iterate 2 (apply wpTr_step rfl; (intro W hS K hK; go_simp; exact hK _ rfl))
  refine wpTr_make rfl (fun K' hK => ?_)
  go_simp
  refine (room_any s b m x _ HK1.out HN.out).mono ?_
  rintro e W2 ⟨rfl, hb2⟩
  have hbb : Below (g + 4) W1 W2 := ((Below.refl _ W1).drew).trans (hb2.mono (Nat.le_of_eq HZ1.out.symm))
  have A0 := Lib.hid (HA0.out.keep hbb (by omega))
  have A1 := Lib.hid (HA1.out.keep hbb (by omega))
  have A2 := Lib.hid (HA2.out.keep hbb (by omega))
  have A3 := Lib.hid (HA3.out.keep hbb (by omega))
  have HB2 := Lib.hid (HB0.out.trans (hbb.mono (Nat.le_add_right g 4)))
  have HZ2 : Hid (g + 4 ≤ W2.heap.size) := by have := hbb.size; rw [HZ1.out] at this; exact this
  refine hK _ _ _ (fun _ h => h) (A0.out.cell 0 _ rfl) ?_
  clear hK K' hb2 hbb HB0 HA0 HA1 HA2 HA3 HK1 a0
  refine wpTr_nil ?_
  go_wp2_with fail
  refine (places_any _ _ _ _).mono ?_
  rintro e X ⟨rfl, hb, bs, b4, b5⟩
  obtain ⟨q, hq⟩ : ∃ q, q = W2.heap.size := ⟨_, rfl⟩
  rw [← hq] at hb bs b4 b5 HZ2 ⊢
  have HQ := Lib.hid hq
  clear hq
  have R0 := Lib.hid (A0.out.keep hb (by have := HZ2.out; omega))
  have R1 := Lib.hid (A1.out.keep hb (by have := HZ2.out; omega))
  have R2 := Lib.hid (A2.out.keep hb (by have := HZ2.out; omega))
  have R3 := Lib.hid (A3.out.keep hb (by have := HZ2.out; omega))
  have HBX := Lib.hid (HB2.out.trans (hb.mono (by have := HZ2.out; omega)))
  have HBS := Lib.hid bs
  have HB4 := Lib.hid b4
  have HB5 := Lib.hid b5
  clear hb bs b4 b5 A0 A1 A2 A3 HB2
  obtain ⟨z, hz⟩ : ∃ z, z = X.heap.size := ⟨_, rfl⟩
  have HZ : Hid (z = X.heap.size ∧ q + 3 ≤ z) := ⟨hz, by rw [hz]; exact HB5.out.lt⟩
  have HL0 : Hid (SameLow g (q + 3) X X) := ⟨by rw [← hz]; exact HZ.out.2, fun _ _ _ => rfl⟩
  clear hz
  go_wp2_with fail
  gi_wp2_with fail
  refine range_by (gf := 162) (lb := #[.pointer (some ⟨q + 1, 0, none⟩), .pointer (some ⟨q + 2, 0, none⟩), .pointer (some ⟨q, 0, none⟩)]) (by decide) rfl (enters_of Tryz.func162 (by kernel_rfl) rfl)
    0 (min (roomN x.n) (roomN x.n)) (fun k => #[.int .i64 (secN x.f k)]) (fun _ => rfl) (fun W => Below g w W ∧ SameLow g (q + 3) X W)
    (fun l J Jx W hgd hbl hyy h0 => ?iter) (EoJ w X g q x key) (EoX w g q x key) (fun k W h => ⟨h.1, h.2.1⟩) ?jb ?jp ?xp ⟨HBX.out, HL0.out, fun z hz => by rw [amongK_none _ _ _ _ (Nat.le_refl 0)] at hz; cases hz⟩ ?body ?fin ?ret
  case iter =>
    have hB : ∀ W, Below g w W → Box W s 158 (secC b m x) := fun W hb => HS.out.box.keep hb (by rw [HG.out]; exact HS.out.box.lt)
    have hr1 : roomN x.n ≤ 1000 := Nat.le_trans (room_le _) (Nat.le_trans HN.out (by decide))
    refine places_iter 5 l q (q + 1) (q + 2) (by decide) (some ⟨s, 0, none⟩) 0 (roomN x.n) (roomN x.n) hr1 (by decide) hr1 (secN x.f) _ ?_ ?_ ?_ J Jx W hgd hbl hyy h0
    · rintro W ⟨hb, hl⟩
      have := HZ2.out
      exact ⟨hl.box HBS.out (by omega) (by omega), hl.box HB4.out (by omega) (by omega), hl.box HB5.out (by omega) (by omega)⟩
    · rintro W ⟨hb, hl⟩
      exact room_any s b m x W (hB W hb) HN.out
    · rintro W k ⟨hb, hl⟩ h1 h2
      exact sector_any s b m x W k (hB W hb) HX.out (by omega)
  case jb =>
    rintro k W W' ⟨hb, hl, hk⟩ hbb
    exact ⟨hb.trans (hbb.mono (by have := hl.1; have := HZ2.out; omega)), hl.keep hbb, hk⟩
  case jp =>
    rintro k W o ⟨hb, hl, hk⟩ hs
    have := HZ.out
    have := HZ2.out
    exact ⟨below_put hb (by rw [HG.out]; exact Nat.le_refl _) _ _ (by omega), hl.put _ _ (by omega), hk⟩
  case xp =>
    rintro W o ⟨hb, hl, y, hr2, hr3, hk⟩ hs
    have := HZ.out
    have := HZ2.out
    exact ⟨below_put hb (by rw [HG.out]; exact Nat.le_refl _) _ _ (by omega), Nat.le_trans hl (putObj_os _ _ _), y, hr2.of (World.putObj_heap_other (by omega)), hr3.of (World.putObj_heap_other (by omega)), hk⟩
  case body =>
    rintro k W h1 h2 ⟨hb, hl, hk⟩ hs
    have HB := Lib.hid hb
    have HL := Lib.hid hl
    have HK := Lib.hid (And.intro h2 hk)
    rw [← HZ.out.1] at hs ⊢
    have HSZ := Lib.hid hs
    clear hb hl hk h1 h2 hs
    gi_wp2_with fail
    intro o
    have hb1 := below_put (o := o) HB.out (by rw [HG.out]; exact Nat.le_refl _) (z + 1) (by have := HZ.out; have := HZ2.out; omega)
    have hl1 := HL.out.put (z + 1) o (by have := HZ.out; omega)
    have hd1 : (W.putObj (z + 1) o).heap[z]? = W.heap[z]? := World.putObj_heap_other (by omega)
    have hs1 := putObj_os W (z + 1) o
    obtain ⟨r1, hr1⟩ : ∃ r1, r1 = (W.putObj (z + 1) o).heap[z + 1]? := ⟨_, rfl⟩
    rw [← hr1]
    generalize W.putObj (z + 1) o = W1 at *
    have HB1 := Lib.hid hb1
    have HL1 := Lib.hid hl1
    have HD1 := Lib.hid hd1
    have HS1 := Lib.hid hs1
    have HR1 := Lib.hid hr1
    have a0 : W1.cell? ⟨g, 0, none⟩ = some (.pointer (some ⟨s, 0, none⟩)) := (HL1.out.box R0.out (by have := HZ2.out; omega) (by omega)).cell 0 _ rfl
    have hsa : SecAt W1 s b m x := HS.out.keep (by rw [← HG.out]; exact HB1.out)
    have a3 : W1.cell? ⟨s, 3, none⟩ = some (.map (some m)) := hsa.box.cell 3 _ rfl
    have hkw : (Lit.int .i64 ((secN x.f k : Nat) : Int)).wf = true := by
      have h1 : secN x.f k < x.f + x.n := secN_lt (by have := HK.out.1; omega)
      have := HX.out
      have := HN.out
      exact nat_wf (by omega)
    have hlook := slook_ok hsa.map hkw
    clear hb1 hl1 hd1 hs1 hr1 hsa
    cases hf : findS x.e (secN x.f k : Int) with
    | none =>
      rw [hf] at hlook
      simp only [Option.isSome_none] at hlook
      have HF := Lib.hid hf
      clear hf hkw
      gi_wp2
      have hzz := HZ.out
      have hz2 := HZ2.out
      have hal : Below W1.heap.size W1 (W1.alloc (.cells #[.string ⟨#[]⟩, .string ⟨#[]⟩, .int .i64 0, .int .i64 0] 170)) := (Below.refl _ _).alloc (Nat.le_refl _) _
      have hsz := HS1.out
      have hss := HSZ.out
      refine ⟨by omega, ?_, ?_, HB1.out.trans (hal.mono (by omega)), HL1.out.keep hal, ?_⟩
      · rw [HR1.out]; exact hal.block _ (by omega)
      · rw [← HD1.out]; exact hal.block _ (by omega)
      · rw [amongK_succ _ _ _ _ (Nat.zero_le _), HF.out]
        simpa using HK.out.2
    | some y =>
      rw [hf] at hlook
      simp only [Option.isSome_some] at hlook
      have HF := Lib.hid hf
      have HY0 : Hid (y.key ≠ key → ∀ z ∈ amongK x.e x.f 0 (k + 1), z.key ≠ key) := fun e => by
        rw [amongK_succ _ _ _ _ (Nat.zero_le _), HF.out]
        intro z hz
        rcases List.mem_append.1 hz with h | h
        · exact HK.out.2 z h
        · simp only [Option.toList_some, List.mem_singleton] at h
          rw [h]; exact e
      have HY1 : Hid (y.key = key → entOf x key = some y) := fun e => entOf_at HK.out.2 (by have := HK.out.1; omega) HF.out e
      have HAL : Hid (Below W1.heap.size W1 (W1.alloc (.cells (cgA y) 170))) := (Below.refl _ _).alloc (Nat.le_refl _) _
      have BN := Lib.hid (Box.new W1 170 (cgA y))
      have h1a := (HL1.out.box R1.out (by have := HZ2.out; omega) (by omega)).keep HAL.out (by have := HL1.out.1; have := HZ2.out; omega)
      have c1 := h1a.cell 0 _ rfl
      have n0 := BN.out.cell 0 _ rfl
      clear hf h1a hkw
      by_cases he : y.key = key
      · have HE := Lib.hid (HY1.out he)
        have d : (y.key.toList == key.toList) = true := by rw [he]; exact beq_self_eq_true _
        have h2a := (HL1.out.box R2.out (by have := HZ2.out; omega) (by omega)).keep HAL.out (by have := HL1.out.1; have := HZ2.out; omega)
        have h3a := (HL1.out.box R3.out (by have := HZ2.out; omega) (by omega)).keep HAL.out (by have := HL1.out.1; have := HZ2.out; omega)
        have H2A := Lib.hid h2a
        have H3A := Lib.hid h3a
        have n1 := BN.out.cell 1 _ rfl
        have n2 := BN.out.cell 2 _ rfl
        have n3 := BN.out.cell 3 _ rfl
        have p0 := h2a.cell 0 _ rfl
        have p1 := h2a.cell 1 _ rfl
        have p2 := h2a.cell 2 _ rfl
        have p3 := h2a.cell 3 _ rfl
        have f0 := h2a.free 0
        have f1 := h2a.free 1
        have f2 := h2a.free 2
        have f3 := h2a.free 3
        have q0 := h3a.cell 0 _ rfl
        have q1 := h3a.free 0
        clear he h2a h3a HY0 HY1
        gi_wp2
        obtain ⟨r2, r3, rc⟩ := five_set H2A.out H3A.out (by omega) (.string y.key) (.string y.sum) (.int .i64 y.len) (.int .i64 y.pos) (.bool true)
        have hzz := HZ.out
        have hz2 := HZ2.out
        have hal := HAL.out
        have hsz := HS1.out
        have hss := HSZ.out
        have hll := HL1.out.1
        refine ⟨by omega, ?_, ?_, HB1.out.trans ((hal.mono (by omega)).trans (rc.below (by rw [size_alloc]; omega) (by intro j hj; simp at hj; omega))), Nat.le_trans (Nat.le_trans hll hal.size) rc.size, y, r2, r3, HE.out⟩
        · rw [HR1.out]; exact (rc.block _ (by rw [size_alloc]; omega) (by simp; omega)).trans (hal.block _ (by omega))
        · rw [← HD1.out]; exact (rc.block _ (by rw [size_alloc]; omega) (by simp; omega)).trans (hal.block _ (by omega))
      · have HN0 := Lib.hid (HY0.out he)
        have d : (y.key.toList == key.toList) = false := by
          rw [beq_eq_false_iff_ne]
          intro e
          apply he
          rw [ByteArray.toList_eq, ByteArray.toList_eq] at e
          exact ByteArray.ext (Array.toList_inj.1 e)
        clear he HY0 HY1
        gi_wp2
        have hzz := HZ.out
        have hz2 := HZ2.out
        have hal := HAL.out
        have hsz := HS1.out
        have hss := HSZ.out
        refine ⟨by omega, ?_, ?_, HB1.out.trans (hal.mono (by omega)), HL1.out.keep hal, HN0.out⟩
        · rw [HR1.out]; exact hal.block _ (by omega)
        · rw [← HD1.out]; exact hal.block _ (by omega)
  case fin =>
    rintro W ⟨hb, hl, hk⟩ hs hd
    have HNO : Hid (entOf x key = none) := entOf_no (by rw [show max 0 (min (roomN x.n) (roomN x.n)) = roomN x.n by omega] at hk; exact hk)
    have B2 := Lib.hid (hl.box R2.out (by have := HZ2.out; omega) (by omega))
    have B3 := Lib.hid (hl.box R3.out (by have := HZ2.out; omega) (by omega))
    have HB := Lib.hid hb
    have HL := Lib.hid hl
    rw [← HZ.out.1] at hd ⊢
    have HD := Lib.hid hd
    clear hb hl hk hs hd
    have p0 := B2.out.cell 0 _ rfl
    have p1 := B2.out.cell 1 _ rfl
    have p2 := B2.out.cell 2 _ rfl
    have p3 := B2.out.cell 3 _ rfl
    have f0 := B2.out.free 0
    have f1 := B2.out.free 1
    have f2 := B2.out.free 2
    have f3 := B2.out.free 3
    have q0 := B3.out.cell 0 _ rfl
    have q1 := B3.out.free 0
    gi_wp2
    obtain ⟨r2, r3, rc⟩ := five_set B2.out B3.out (by omega) (.string ⟨#[]⟩) (.string ⟨#[]⟩) (.int .i64 0) (.int .i64 0) (.bool false)
    have hzz := HZ.out
    have hz2 := HZ2.out
    have hll := HL.out.1
    generalize (((((W.setCell ⟨g + 2, 0, none⟩ (.string ⟨#[]⟩)).setCell ⟨g + 2, 1, none⟩ (.string ⟨#[]⟩)).setCell ⟨g + 2, 2, none⟩ (.int .i64 0)).setCell ⟨g + 2, 3, none⟩ (.int .i64 0)).setCell ⟨g + 3, 0, none⟩ (.bool false)) = W5 at *
    have hdd := (rc.block z (lt_of_block HD.out) (by simp; omega)).trans HD.out
    refine ⟨by simp, .inl ⟨_, _, rfl, run_takeDeferred hdd, ?_⟩⟩
    refine ⟨_, results_bc rfl _ _ (g + 2) ⟨g + 3, 0, none⟩ 170 _ (0, 0) _ (.bool false) rfl rfl (r2.of (World.putObj_heap_other (by omega))) Tryz.underlying170 rfl sizeEnt (Tryz.isAgg4 _) ((r3.of (World.putObj_heap_other (by omega))).cell 0 _ rfl), ?_⟩
    refine ⟨by rw [HNO.out]; rfl, ?_⟩
    rw [← HG.out]
    exact below_put (HB.out.trans (rc.below (by omega) (by intro j hj; simp at hj; omega))) (by rw [HG.out]; exact Nat.le_refl _) _ _ (by omega)
  case ret =>
    rintro W ⟨hb, hs2, y, b2, b3, hk⟩ hs hd
    have B2 := Lib.hid b2
    have B3 := Lib.hid b3
    have HB := Lib.hid hb
    have HK := Lib.hid hk
    rw [← HZ.out.1] at hd ⊢
    have HD := Lib.hid hd
    clear hb hk hs hd b2 b3 hs2
    gi_wp2
    have hzz := HZ.out
    have hz2 := HZ2.out
    refine ⟨by simp, .inl ⟨_, _, rfl, run_takeDeferred HD.out, ?_⟩⟩
    refine ⟨_, results_bc rfl _ _ (g + 2) ⟨g + 3, 0, none⟩ 170 (cgA y) (0, 0) _ (.bool true) rfl rfl (B2.out.of (World.putObj_heap_other (by omega))) Tryz.underlying170 rfl sizeEnt (Tryz.isAgg4 _) ((B3.out.of (World.putObj_heap_other (by omega))).cell 0 _ rfl), ?_⟩
    refine ⟨by rw [HK.out]; rfl, ?_⟩
    rw [← HG.out]
    exact below_put HB.out (by rw [HG.out]; exact Nat.le_refl _) _ _ (by omega)
end Go.Proofs.YtphhnhldbajaoaaGreatDoor
