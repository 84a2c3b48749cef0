/-
  Texts put together: SpaceCat, SpaceSwp.
-/
import Derived.Test.YtphhnhldbajaoaaGreatDoorMg33
import Derived.Deep.AppendSrc
namespace Go.Proofs.YtphhnhldbajaoaaGreatDoor
open Go.RowKit Go.ChangeShapes Go.WideShapes Go.ChangeAt

/-- 'append(v, x...)', x any row that lies in memory, an empty one too. -/
theorem wp_prs_more {t e : TypeId} (ht : Tryz.prog.underlying t = some (.slice e)) (he : Two e) {ops : Array Oper} {rest : List Oper} {o : Oper} {a : Act} {Q : Exit → Act → World → Prop} (W : World) (hgd : o.guard = none) (s x : Operand)
    (ho : o.op = .call { callee := .builtin .append, args := #[s, x], argTypes := #[t, t] })
    (base : Nat) (v : Value) (l : List (Int × Int)) (hs : a.eval s = v) (hb : PrsS e W base v l)
    (xa : Option Addr) (c : Nat) (ps : List (Int × Int)) (hx : a.eval x = .slice xa ps.length c) (hsl : SlP W xa ps)
    (hbytes : l.length + ps.length ≤ 100000) (hbase : base ≤ W.heap.size)
    (h : ∀ v' w', PrsS e w' base v' (l ++ ps) → W.grownBy w' v.ownBlock → wpList Tryz.prog ops Q rest (a.put o.dst v') w') : wpList Tryz.prog ops Q (o :: rest) a W := by
  by_cases hne : ps = []
  · subst hne
    have hsrc : Src Tryz.prog 2 t (.slice xa 0 c) 0 [] W := by
      cases xa with
      | none => exact Src.ofNil W ht c
      | some ad => exact Src.ofSlice W ht ad 0 c [] rfl (fun j u hj => by simp at hj) (fun u hu => by cases hu)
    obtain ⟨i0, hi, hz0, hz1, hz2⟩ := info_parts he
    have hv : ∃ ba n cp, v = .slice ba n cp ∧ n ≤ cp := by
      rcases hb.view with ⟨rfl, _⟩ | ⟨g, cap, rfl, hc, _⟩
      · exact ⟨none, 0, 0, rfl, Nat.le_refl _⟩
      · exact ⟨_, _, _, rfl, hc⟩
    obtain ⟨ba, n, cp, rfl, hcp⟩ := hv
    have hr := run_append_nothing (P := Tryz.prog) W t t o.type e i0 ht hi ba n cp hcp (.slice xa 0 c) (by rw [hz1]; exact hsrc)
    refine wpList_plain hgd fun K hK => ?_
    unfold Oper.wp execOp
    have hx' : a.eval x = .slice xa 0 c := hx
    simp only [ho, resolve, invoke, builtin, Sem.run_bind, Sem.run_pure, Result.andThen_ok, List.map_toArray, List.map_cons, List.map_nil, hs, hx', hr]
    exact hK _ _ (h _ _ (by rw [List.append_nil]; exact hb) ⟨rfl, rfl, rfl, Nat.le_refl _, fun _ _ _ => rfl⟩)
  · obtain ⟨b, off, rfl, _, hcell⟩ := hsl.cellsS hne
    exact wp_prs_app ht he W hgd s x ho base v l hs hb ⟨b, off, none⟩ c ps hx (fun j u hj => by rw [add_plain]; exact hcell j u hj) hbytes hbase h
theorem wp_prs_same {t e : TypeId} (ht : Tryz.prog.underlying t = some (.slice e)) (he : Two e) {ops : Array Oper} {rest : List Oper} {o : Oper} {a : Act} {Q : Exit → Act → World → Prop} (W : World) (hgd : o.guard = none) (s x : Operand)
    (ho : o.op = .call { callee := .builtin .append, args := #[s, x], argTypes := #[t, t] })
    (ba : Option Addr) (n cp : Nat) (hs : a.eval s = .slice ba n cp) (hcp : n ≤ cp) (hx : a.eval x = .slice none 0 0)
    (h : wpList Tryz.prog ops Q rest (a.put o.dst (.slice ba n cp)) W) : wpList Tryz.prog ops Q (o :: rest) a W := by
  obtain ⟨i0, hi, hz0, hz1, hz2⟩ := info_parts he
  have hr := run_append_nothing (P := Tryz.prog) W t t o.type e i0 ht hi ba n cp hcp (.slice none 0 0) (Src.ofNil W ht 0)
  refine wpList_plain hgd fun K hK => ?_
  unfold Oper.wp execOp
  simp only [ho, resolve, invoke, builtin, Sem.run_bind, Sem.run_pure, Result.andThen_ok, List.map_toArray, List.map_cons, List.map_nil, hs, hx, hr]
  exact hK _ _ h

set_option maxRecDepth 100000 in
theorem grow_any (n : Nat) (w : World) (hn : n ≤ 10000) :
    Calls Tryz.prog 149 #[.slice none 0 0, .int .i64 n] w fun e w' => ∃ v, e = .returned v ∧ PrsS 139 w' w.heap.size v [] ∧ Below w.heap.size w w' := by
  cases n with
  | zero =>
    go_enter Tryz.func149, Tryz.ntmps149
    go_wp2
    go_ret
    exact ⟨_, rfl, PrsS.nil _ _ _, Below.refl _ _⟩
  | succ m =>
    have h0 : (0 : Int) < ((m + 1 : Nat) : Int) := by omega
    generalize hq : m + 1 = n at *
    have hpos := Lib.hid (show 0 < n by omega)
    clear hq
    go_enter Tryz.func149, Tryz.ntmps149
    go_wp2_with (with_reducible refine wp_prs_zeros Tryz.underlying86 Tryz.underlying3 two_S _ rfl (.tmp 20) (.tmp 21) rfl rfl n ?c0 ?c1 ?c2 ?c3)
    case c0 => first | rfl | simp
    case c1 => exact hpos.out
    case c2 => omega
    intro g c w2 hc hcm hp hb
    have HP := Lib.hid hp
    have HB := Lib.hid hb
    unfold maxLen at hcm
    clear hp hb
    go_wp2
    go_ret
    exact ⟨_, rfl, HP.out, HB.out⟩

def lenAt (A B : Nat) : Nat → Nat
  | 0 => 0
  | 1 => A
  | _ => A + B
def catAt (A B : List (Int × Int)) : Nat → List (Int × Int)
  | 0 => []
  | 1 => A
  | _ => A ++ B
set_option maxRecDepth 100000 in
set_option maxHeartbeats 2000000 in
theorem concat_any (g : Nat) (xa ya : Option Addr) (xc yc : Nat) (A B : List (Int × Int)) (w : World) (hA : A.length ≤ 2000) (hB : B.length ≤ 2000) (hx : SlP w xa A) (hy : SlP w ya B) (hg : Box w g 86 #[.slice xa A.length xc, .slice ya B.length yc]) :
    Calls Tryz.prog 131 #[.slice (some ⟨g, 0, none⟩) 2 2] w fun e w' => ∃ v, e = .returned v ∧ PrsS 139 w' w.heap.size v (A ++ B) ∧ Below w.heap.size w w' := by
  have HX := Lib.hid hx
  have HY := Lib.hid hy
  have HG := Lib.hid hg
  clear hx hy hg
  go_enter Tryz.func131, Tryz.ntmps131
  go_wp2
  go_loopw [3, 11] (fun n i wr => ∃ k : Nat, k ≤ 2 ∧ i = .int .i64 k ∧ n = .int .i64 (lenAt A.length B.length k) ∧ Hid (Below w.heap.size w wr)) (fun _ i _ => 2 - (intOf i).toNat)
  case atStart => exact ⟨0, by omega, rfl, rfl, Below.refl _ _⟩
  case round =>
    obtain ⟨k, hk, rfl, rfl, HL⟩ := hrel
    have GK := HG.out.keep HL.out HG.out.lt
    have c0 := GK.cell 0 _ rfl
    have c1 := GK.cell 1 _ rfl
    rcases (show k = 0 ∨ k = 1 ∨ k = 2 by omega) with rfl | rfl | rfl
    · rw [show lenAt A.length B.length 0 = 0 from rfl]
      clear GK
      go_wp2
      go_roundw
      case rel => exact ⟨1, by omega, rfl, rfl, HL⟩
      case measure => simp [intOf]
    · rw [show lenAt A.length B.length 1 = A.length from rfl]
      clear GK
      go_wp2
      go_roundw
      case rel => exact ⟨2, by omega, rfl, by simp [lenAt], HL⟩
      case measure => simp [intOf]
    · rw [show lenAt A.length B.length 2 = A.length + B.length from rfl]
      have GG := Lib.hid GK
      have HX1 := Lib.hid (HX.out.keep HL.out)
      have HY1 := Lib.hid (HY.out.keep HL.out)
      have e : ((A.length + B.length : Nat) : Int) = (A.length : Int) + (B.length : Int) := by omega
      clear c0 c1 GK e
      go_wp2_with fail
      rw [show ((A.length : Int) + (B.length : Int)) = ((A.length + B.length : Nat) : Int) by omega]
      refine (grow_any (A.length + B.length) _ (by omega)).mono ?_
      rintro e w1 ⟨v1, rfl, hp, hb⟩
      have HP := Lib.hid (hp.base HL.out.size)
      have HB := Lib.hid (HL.out.trans (hb.mono HL.out.size))
      have HX2 := Lib.hid (HX1.out.keep hb)
      have HY2 := Lib.hid (HY1.out.keep hb)
      have G2 := Lib.hid (GG.out.keep hb GG.out.lt)
      clear hp hb hk HL HX1 HY1 GG
      go_wp2
      go_loopw [6, 27] (fun s i wr => ∃ (k : Nat) (v : Value), k ≤ 2 ∧ i = .int .i64 k ∧ s = v ∧ Hid (PrsS 139 wr w.heap.size v (catAt A B k)) ∧ Hid (Below w.heap.size w wr)) (fun _ i _ => 2 - (intOf i).toNat)
      case atStart => exact ⟨0, _, by omega, rfl, rfl, HP, HB⟩
      case round =>
        clear HP HB HX2 HY2 G2
        obtain ⟨k, v, hk, rfl, rfl, HP, HB⟩ := hrel
        have GK := HG.out.keep HB.out HG.out.lt
        have c0 := GK.cell 0 _ rfl
        have c1 := GK.cell 1 _ rfl
        have HX1 := Lib.hid (HX.out.keep HB.out)
        have HY1 := Lib.hid (HY.out.keep HB.out)
        clear GK
        rcases (show k = 0 ∨ k = 1 ∨ k = 2 by omega) with rfl | rfl | rfl
        · go_wp2_with (with_reducible refine wp_prs_more Tryz.underlying86 two_S _ rfl (.tmp 31) (.tmp 32) rfl w.heap.size _ (catAt A B 0) rfl ?c1 xa xc A rfl ?c2 ?c3 ?c4 ?c6)
          case c1 => exact HP.out
          case c2 => exact HX1.out
          case c3 => show 0 + A.length ≤ 100000; omega
          case c4 => exact HB.out.size
          intro v' w2 hp hg
          have HP3 := Lib.hid hp
          have HB3 := Lib.hid (below_grow HB.out hg HP.out HB.out.size)
          clear hp hg c0 c1 HX1 HY1 HP HB
          go_wp2
          go_roundw
          case rel => exact ⟨1, _, by omega, rfl, rfl, HP3, HB3⟩
          case measure => simp [intOf]
        · go_wp2_with (with_reducible refine wp_prs_more Tryz.underlying86 two_S _ rfl (.tmp 31) (.tmp 32) rfl w.heap.size _ (catAt A B 1) rfl ?d1 ya yc B rfl ?d2 ?d3 ?d4 ?d6)
          case d1 => exact HP.out
          case d2 => exact HY1.out
          case d3 => show A.length + B.length ≤ 100000; omega
          case d4 => exact HB.out.size
          intro v' w2 hp hg
          have HP3 := Lib.hid hp
          have HB3 := Lib.hid (below_grow HB.out hg HP.out HB.out.size)
          clear hp hg c0 c1 HX1 HY1 HP HB
          go_wp2
          go_roundw
          case rel => exact ⟨2, _, by omega, rfl, rfl, HP3, HB3⟩
          case measure => simp [intOf]
        · clear c0 c1
          go_wp2
          go_ret
          exact ⟨_, rfl, HP.out, HB.out⟩

theorem concat_len (g : Nat) (xa ya : Option Addr) (xc yc la lb : Nat) (A B : List (Int × Int)) (w : World) (hla : A.length = la) (hlb : B.length = lb) (hA : la ≤ 2000) (hB : lb ≤ 2000) (hx : SlP w xa A) (hy : SlP w ya B) (hg : Box w g 86 #[.slice xa la xc, .slice ya lb yc]) :
    Calls Tryz.prog 131 #[.slice (some ⟨g, 0, none⟩) 2 2] w fun e w' => ∃ v, e = .returned v ∧ PrsS 139 w' w.heap.size v (A ++ B) ∧ Below w.heap.size w w' := by
  subst hla hlb
  exact concat_any g xa ya xc yc A B w hA hB hx hy hg
theorem slP_take {w : World} {g : Nat} {l : List (Int × Int)} (f : Nat) (hlt : g < w.heap.size) (h : ∀ j u, (l.flatMap PrVS)[j]? = some u → w.cell? ⟨g, j, none⟩ = some u) : SlP w (some ⟨g, 0, none⟩) (l.take f) := by
  have H := slP_flat hlt h
  intro hne
  have hne' : l ≠ [] := by intro e; subst e; simp at hne
  obtain ⟨b, off, e, hb, hc⟩ := H hne'
  refine ⟨b, off, e, hb, fun i x hx => hc i x ?_⟩
  rw [List.getElem?_take] at hx
  split at hx
  · exact hx
  · cases hx
theorem slP_drop {w : World} {g : Nat} {l : List (Int × Int)} (t : Nat) (hlt : g < w.heap.size) (h : ∀ j u, (l.flatMap PrVS)[j]? = some u → w.cell? ⟨g, j, none⟩ = some u) : SlP w (some ⟨g, t * 2, none⟩) (l.drop t) := by
  have H := slP_flat hlt h
  intro hne
  have hne' : l ≠ [] := by intro e; subst e; simp at hne
  obtain ⟨b, off, e, hb, hc⟩ := H hne'
  injection e with e
  injection e with e1 e2
  subst e1 e2
  refine ⟨g, t * 2, rfl, hb, fun i x hx => ?_⟩
  rw [List.getElem?_drop] at hx
  have h2 := hc (t + i) x hx
  rw [Nat.zero_add] at h2
  rw [show t * 2 + i * 2 = (t + i) * 2 by omega]
  exact h2
end Go.Proofs.YtphhnhldbajaoaaGreatDoor

namespace Go.Proofs.YtphhnhldbajaoaaGreatDoor
open Go.RowKit Go.ChangeShapes Go.WideShapes Go.ChangeAt

set_option maxRecDepth 100000 in
set_option maxHeartbeats 2000000 in
theorem swapped_none (lv : Value) (l : List (Int × Int)) (f t : Nat)  (w : World) (b0 : Nat) (hl : PrsS 139 w b0 lv l) (hlen : l.length ≤ 1000) (hft : f ≤ t) (ht : t ≤ l.length) :
    Calls Tryz.prog 101 #[lv, .int .i64 f, .int .i64 t, .slice none 0 0] w fun e w' => ∃ v, e = .returned v ∧ PrsS 139 w' w.heap.size v (l.take f ++ l.drop t) ∧ Below w.heap.size w w' := by
  rcases hl.view with ⟨rfl, rfl⟩ | ⟨g, cap, rfl, hc, hm, hg0, hgl, hcell⟩
  · obtain rfl : t = 0 := by simpa using ht
    obtain rfl : f = 0 := by omega
    clear hl
    go_enter Tryz.func101, Tryz.ntmps101
    go_wp2_with (with_reducible refine wp_prs_same Tryz.underlying86 two_S _ rfl (.tmp 13) (.tmp 14) rfl _ 0 0 rfl ?nc1 rfl ?nc2)
    case nc1 => exact Nat.le_refl _
    go_wp2_with fail
    refine (concat_len _ none none 0 0 0 0 [] [] _ rfl rfl (by omega) (by omega) ?nd1 ?nd2 (Box.new _ _ _)).mono ?_
    case nd1 => exact SlP.keep (SlP.nil) ((Below.refl _ _).alloc (Nat.le_refl _) _)
    case nd2 => exact SlP.keep (SlP.nil) ((Below.refl _ _).alloc (Nat.le_refl _) _)
    rintro e w2 ⟨v2, rfl, hp2, hb2⟩
    have HP2 := Lib.hid (hp2.base (show w.heap.size ≤ _ by rw [size_alloc]; have := Nat.le_refl w.heap.size; omega))
    have HB2 := Lib.hid ((Below.trans (Below.refl w.heap.size w) ((Below.refl _ _).alloc (Nat.le_refl w.heap.size) _)).trans (hb2.mono (by rw [size_alloc]; have := Nat.le_refl w.heap.size; omega)))
    clear hp2 hb2
    go_wp2
    go_ret
    exact ⟨_, rfl, by have h := HP2.out; simpa using h, HB2.out⟩
  · unfold maxLen at hm
    have HCELL := Lib.hid hcell
    have HGL := Lib.hid hgl
    have HTK := Lib.hid (show (l.take f).length = f by rw [List.length_take]; omega)
    have HTC : Hid (∀ j u, ((l.take f).flatMap PrVS)[j]? = some u → w.cell? ((⟨g, 0, none⟩ : Addr).add j) = some u) := fun j u hj => by
      rw [add_plain, Nat.zero_add]
      refine hcell j u ?_
      conv => lhs; rw [← List.take_append_drop f l]
      rw [List.flatMap_append, List.getElem?_append_left (List.getElem?_eq_some_iff.1 hj).1]
      exact hj
    clear hl hcell hgl hg0
    rcases (show t < cap ∨ t = cap by omega) with htc | htc
    · have HDR := Lib.hid (show (l.drop t).length = l.length - t from List.length_drop ..)
      go_enter Tryz.func101, Tryz.ntmps101
      go_wp2_with (with_reducible refine wp_prs_same Tryz.underlying86 two_S _ rfl (.tmp 13) (.tmp 14) rfl _ f f rfl ?pc1 rfl ?pc2)
      case pc1 => exact Nat.le_refl _
      go_wp2_with fail
      refine (concat_len _ _ _ _ _ f _ (l.take f) (l.drop t) _ HTK.out HDR.out (by omega) (by omega) ?pd1 ?pd2 (Box.new _ _ _)).mono ?_
      case pd1 => exact SlP.keep (slP_take f HGL.out HCELL.out) ((Below.refl _ _).alloc (Nat.le_refl _) _)
      case pd2 => exact SlP.keep (slP_drop t HGL.out HCELL.out) ((Below.refl _ _).alloc (Nat.le_refl _) _)
      rintro e w2 ⟨v2, rfl, hp2, hb2⟩
      have HP2 := Lib.hid (hp2.base (show w.heap.size ≤ _ by rw [size_alloc]; have := Nat.le_refl w.heap.size; omega))
      have HB2 := Lib.hid ((Below.trans (Below.refl w.heap.size w) ((Below.refl _ _).alloc (Nat.le_refl w.heap.size) _)).trans (hb2.mono (by rw [size_alloc]; have := Nat.le_refl w.heap.size; omega)))
      clear hp2 hb2
      go_wp2
      go_ret
      exact ⟨_, rfl, by have h := HP2.out; exact h, HB2.out⟩
    · have hlt : l.length = cap := by omega
      have hcl : cap ≤ 1000 := by omega
      have hfc : f ≤ cap := by omega
      have HDE := Lib.hid (show l.drop t = [] by rw [List.drop_eq_nil_iff]; omega)
      have HDR := Lib.hid (show ([] : List (Int × Int)).length = 0 from rfl)
      rw [hlt] at ht ⊢
      subst htc
      clear hlt
      go_enter Tryz.func101, Tryz.ntmps101
      go_wp2_with (with_reducible refine wp_prs_same Tryz.underlying86 two_S _ rfl (.tmp 13) (.tmp 14) rfl _ f f rfl ?uc1 rfl ?uc2)
      case uc1 => exact Nat.le_refl _
      go_wp2_with fail
      refine (concat_len _ _ _ _ _ f _ (l.take f) [] _ HTK.out HDR.out (by omega) (by omega) ?ud1 ?ud2 (Box.new _ _ _)).mono ?_
      case ud1 => exact SlP.keep (slP_take f HGL.out HCELL.out) ((Below.refl _ _).alloc (Nat.le_refl _) _)
      case ud2 => exact SlP.keep (SlP.nil) ((Below.refl _ _).alloc (Nat.le_refl _) _)
      rintro e w2 ⟨v2, rfl, hp2, hb2⟩
      have HP2 := Lib.hid (hp2.base (show w.heap.size ≤ _ by rw [size_alloc]; have := Nat.le_refl w.heap.size; omega))
      have HB2 := Lib.hid ((Below.trans (Below.refl w.heap.size w) ((Below.refl _ _).alloc (Nat.le_refl w.heap.size) _)).trans (hb2.mono (by rw [size_alloc]; have := Nat.le_refl w.heap.size; omega)))
      clear hp2 hb2
      go_wp2
      go_ret
      exact ⟨_, rfl, by have h := HP2.out; rw [HDE.out]; exact h, HB2.out⟩

set_option maxRecDepth 100000 in
set_option maxHeartbeats 2000000 in
theorem swapped_one (lv : Value) (l : List (Int × Int)) (f t : Nat) (ob : Nat) (z : Int × Int) (w : World) (b0 : Nat) (hl : PrsS 139 w b0 lv l) (hlen : l.length ≤ 1000) (hft : f ≤ t) (ht : t ≤ l.length) (hz : Box w ob 139 #[.int .i64 z.1, .int .i64 z.2]) :
    Calls Tryz.prog 101 #[lv, .int .i64 f, .int .i64 t, .slice (some ⟨ob, 0, none⟩) 1 1] w fun e w' => ∃ v, e = .returned v ∧ PrsS 139 w' w.heap.size v (l.take f ++ [z] ++ l.drop t) ∧ Below w.heap.size w w' := by
  have HZ : Hid (∀ j u, ([z].flatMap PrVS)[j]? = some u → w.cell? ((⟨ob, 0, none⟩ : Addr).add j) = some u) := fun j u hj => by rw [add_plain, Nat.zero_add]; exact hz.cell j u (by simpa [PrVS] using hj)
  clear hz
  rcases hl.view with ⟨rfl, rfl⟩ | ⟨g, cap, rfl, hc, hm, hg0, hgl, hcell⟩
  · obtain rfl : t = 0 := by simpa using ht
    obtain rfl : f = 0 := by omega
    clear hl
    go_enter Tryz.func101, Tryz.ntmps101
    go_wp2_with (with_reducible refine wp_prs_app Tryz.underlying86 two_S _ rfl (.tmp 13) (.tmp 14) rfl w.heap.size _ [] rfl ?nc1 ⟨ob, 0, none⟩ 1 [z] ?nc2 ?nc3 ?nc4 ?nc5 ?nc6)
    case nc1 => exact PrsS.nil _ _ _
    case nc2 => rfl
    case nc3 => exact HZ.out
    case nc4 => simp
    case nc5 => exact Nat.le_refl _
    intro v' w1 hp hg
    have HB1 := Lib.hid ((Below.refl w.heap.size w).grown hg (Nat.le_refl _) (fun k hk => by cases hk))
    obtain ⟨a1, c1, rfl, _, _, hs1⟩ := hp.slP
    have HS1 := Lib.hid hs1
    clear hp hg hs1
    go_wp2_with fail
    refine (concat_len _ a1 none c1 0 1 0 ([] ++ [z]) [] _ rfl rfl (by omega) (by omega) ?nd1 ?nd2 (Box.new _ _ _)).mono ?_
    case nd1 => exact SlP.keep (HS1.out) ((Below.refl _ _).alloc (Nat.le_refl _) _)
    case nd2 => exact SlP.keep (SlP.nil) ((Below.refl _ _).alloc (Nat.le_refl _) _)
    rintro e w2 ⟨v2, rfl, hp2, hb2⟩
    have HP2 := Lib.hid (hp2.base (show w.heap.size ≤ _ by rw [size_alloc]; have := HB1.out.size; omega))
    have HB2 := Lib.hid ((Below.trans (HB1.out) ((Below.refl _ _).alloc (HB1.out.size) _)).trans (hb2.mono (by rw [size_alloc]; have := HB1.out.size; omega)))
    clear hp2 hb2
    go_wp2
    go_ret
    exact ⟨_, rfl, by have h := HP2.out; simpa using h, HB2.out⟩
  · unfold maxLen at hm
    have HCELL := Lib.hid hcell
    have HGL := Lib.hid hgl
    have HTK := Lib.hid (show (l.take f).length = f by rw [List.length_take]; omega)
    have HTC : Hid (∀ j u, ((l.take f).flatMap PrVS)[j]? = some u → w.cell? ((⟨g, 0, none⟩ : Addr).add j) = some u) := fun j u hj => by
      rw [add_plain, Nat.zero_add]
      refine hcell j u ?_
      conv => lhs; rw [← List.take_append_drop f l]
      rw [List.flatMap_append, List.getElem?_append_left (List.getElem?_eq_some_iff.1 hj).1]
      exact hj
    clear hl hcell hgl hg0
    rcases (show t < cap ∨ t = cap by omega) with htc | htc
    · have HDR := Lib.hid (show (l.drop t).length = l.length - t from List.length_drop ..)
      go_enter Tryz.func101, Tryz.ntmps101
      go_wp2_with (with_reducible refine wp_prs_grow Tryz.underlying86 two_S _ rfl (.tmp 13) (.tmp 14) rfl ⟨g, 0, none⟩ (l.take f) ?pc1 ?pc2 ⟨ob, 0, none⟩ 1 [z] ?pc3 ?pc4 ?pc5 ?pc6 ?pc7)
      case pc1 => rw [HTK.out]; rfl
      case pc2 => exact HTC.out
      case pc3 => rfl
      case pc4 => exact HZ.out
      case pc5 => simp
      case pc6 => rw [HTK.out]; simp; omega
      intro v' w1 hp hb1
      have HB1 := Lib.hid hb1
      have HC1 := Lib.hid (fun j u hj => (hb1.cell (p := ⟨g, j, none⟩) HGL.out).trans (HCELL.out j u hj))
      have HG1 := Lib.hid (Nat.lt_of_lt_of_le HGL.out hb1.size)
      obtain ⟨a1, c1, rfl, _, _, hs1⟩ := hp.slP
      have HS1 := Lib.hid hs1
      clear hp hb1 hs1
      generalize hq : (l.take f ++ [z]).length = q
      have HQ := Lib.hid hq
      have hq2 : q ≤ 2000 := by rw [← hq, List.length_append, HTK.out]; simp; omega
      clear hq
      go_wp2_with fail
      refine (concat_len _ a1 _ c1 _ q _ (l.take f ++ [z]) (l.drop t) _ HQ.out HDR.out hq2 (by omega) ?pd1 ?pd2 (Box.new _ _ _)).mono ?_
      case pd1 => exact SlP.keep (HS1.out) ((Below.refl _ _).alloc (Nat.le_refl _) _)
      case pd2 => exact SlP.keep (slP_drop t HG1.out HC1.out) ((Below.refl _ _).alloc (Nat.le_refl _) _)
      rintro e w2 ⟨v2, rfl, hp2, hb2⟩
      have HP2 := Lib.hid (hp2.base (show w.heap.size ≤ _ by rw [size_alloc]; have := HB1.out.size; omega))
      have HB2 := Lib.hid ((Below.trans (HB1.out) ((Below.refl _ _).alloc (HB1.out.size) _)).trans (hb2.mono (by rw [size_alloc]; have := HB1.out.size; omega)))
      clear hp2 hb2
      go_wp2
      go_ret
      exact ⟨_, rfl, by have h := HP2.out; exact h, HB2.out⟩
    · have hlt : l.length = cap := by omega
      have hcl : cap ≤ 1000 := by omega
      have hfc : f ≤ cap := by omega
      have HDE := Lib.hid (show l.drop t = [] by rw [List.drop_eq_nil_iff]; omega)
      have HDR := Lib.hid (show ([] : List (Int × Int)).length = 0 from rfl)
      rw [hlt] at ht ⊢
      subst htc
      clear hlt
      go_enter Tryz.func101, Tryz.ntmps101
      go_wp2_with (with_reducible refine wp_prs_grow Tryz.underlying86 two_S _ rfl (.tmp 13) (.tmp 14) rfl ⟨g, 0, none⟩ (l.take f) ?uc1 ?uc2 ⟨ob, 0, none⟩ 1 [z] ?uc3 ?uc4 ?uc5 ?uc6 ?uc7)
      case uc1 => rw [HTK.out]; rfl
      case uc2 => exact HTC.out
      case uc3 => rfl
      case uc4 => exact HZ.out
      case uc5 => simp
      case uc6 => rw [HTK.out]; simp; omega
      intro v' w1 hp hb1
      have HB1 := Lib.hid hb1
      have HC1 := Lib.hid (fun j u hj => (hb1.cell (p := ⟨g, j, none⟩) HGL.out).trans (HCELL.out j u hj))
      have HG1 := Lib.hid (Nat.lt_of_lt_of_le HGL.out hb1.size)
      obtain ⟨a1, c1, rfl, _, _, hs1⟩ := hp.slP
      have HS1 := Lib.hid hs1
      clear hp hb1 hs1
      generalize hq : (l.take f ++ [z]).length = q
      have HQ := Lib.hid hq
      have hq2 : q ≤ 2000 := by rw [← hq, List.length_append, HTK.out]; simp; omega
      clear hq
      go_wp2_with fail
      refine (concat_len _ a1 _ c1 _ q _ (l.take f ++ [z]) [] _ HQ.out HDR.out hq2 (by omega) ?ud1 ?ud2 (Box.new _ _ _)).mono ?_
      case ud1 => exact SlP.keep (HS1.out) ((Below.refl _ _).alloc (Nat.le_refl _) _)
      case ud2 => exact SlP.keep (SlP.nil) ((Below.refl _ _).alloc (Nat.le_refl _) _)
      rintro e w2 ⟨v2, rfl, hp2, hb2⟩
      have HP2 := Lib.hid (hp2.base (show w.heap.size ≤ _ by rw [size_alloc]; have := HB1.out.size; omega))
      have HB2 := Lib.hid ((Below.trans (HB1.out) ((Below.refl _ _).alloc (HB1.out.size) _)).trans (hb2.mono (by rw [size_alloc]; have := HB1.out.size; omega)))
      clear hp2 hb2
      go_wp2
      go_ret
      exact ⟨_, rfl, by have h := HP2.out; rw [HDE.out]; exact h, HB2.out⟩
end Go.Proofs.YtphhnhldbajaoaaGreatDoor
