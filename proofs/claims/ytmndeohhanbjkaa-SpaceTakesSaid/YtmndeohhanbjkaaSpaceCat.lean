/-
  Contracts of package space: Grow, Concat, swapped.
-/
import Derived.Test.YtmndeohhanbjkaaSpaceRow
import Derived.Deep.AppendSrc
namespace Go.Proofs.Ytmndeohhanbjkaa
open Go.RowKit Go.ChangeShapes Go.WideShapes Go.ChangeAt

/-- 'append(v, x...)', x any row that lies in memory, an empty one too. -/
theorem wp_prs_more {t e : TypeId} (ht : Try.prog.underlying t = some (.slice e)) (he : Two e) {ops : Array Oper} {rest : List Oper} {o : Oper} {a : Act} {Q : Exit → Act → World → Prop} (W : World) (hgd : o.guard = none) (s x : Operand)
    (ho : o.op = .call { callee := .builtin .append, args := #[s, x], argTypes := #[t, t] })
    (base : Nat) (v : Value) (l : List (Int × Int)) (hs : a.eval s = v) (hb : Prs e W base v l)
    (xa : Option Addr) (c : Nat) (ps : List (Int × Int)) (hx : a.eval x = .slice xa ps.length c) (hsl : SlP W xa ps)
    (hbytes : l.length + ps.length ≤ 100000) (hbase : base ≤ W.heap.size)
    (h : ∀ v' w', Prs e w' base v' (l ++ ps) → W.grownBy w' v.ownBlock → wpList Try.prog ops Q rest (a.put o.dst v') w') : wpList Try.prog ops Q (o :: rest) a W := by
  by_cases hne : ps = []
  · subst hne
    have hsrc : Src Try.prog 2 t (.slice xa 0 c) 0 [] W := by
      cases xa with
      | none => exact Src.ofNil W ht c
      | some ad => exact Src.ofSlice W ht ad 0 c [] rfl (fun j u hj => by simp at hj) (fun u hu => by cases hu)
    obtain ⟨i0, hi, hz0, hz1, hz2⟩ := info_parts he
    have hv : ∃ ba n cp, v = .slice ba n cp ∧ n ≤ cp := by
      rcases hb.view with ⟨rfl, _⟩ | ⟨g, cap, rfl, hc, _⟩
      · exact ⟨none, 0, 0, rfl, Nat.le_refl _⟩
      · exact ⟨_, _, _, rfl, hc⟩
    obtain ⟨ba, n, cp, rfl, hcp⟩ := hv
    have hr := run_append_nothing (P := Try.prog) W t t o.type e i0 ht hi ba n cp hcp (.slice xa 0 c) (by rw [hz1]; exact hsrc)
    refine wpList_plain hgd fun K hK => ?_
    unfold Oper.wp execOp
    have hx' : a.eval x = .slice xa 0 c := hx
    simp only [ho, resolve, invoke, builtin, Sem.run_bind, Sem.run_pure, Result.andThen_ok, List.map_toArray, List.map_cons, List.map_nil, hs, hx', hr]
    exact hK _ _ (h _ _ (by rw [List.append_nil]; exact hb) ⟨rfl, rfl, rfl, Nat.le_refl _, fun _ _ _ => rfl⟩)
  · obtain ⟨b, off, rfl, _, hcell⟩ := hsl.cells hne
    exact wp_prs_app ht he W hgd s x ho base v l hs hb ⟨b, off, none⟩ c ps hx (fun j u hj => by rw [add_plain]; exact hcell j u hj) hbytes hbase h
theorem wp_prs_same {t e : TypeId} (ht : Try.prog.underlying t = some (.slice e)) (he : Two e) {ops : Array Oper} {rest : List Oper} {o : Oper} {a : Act} {Q : Exit → Act → World → Prop} (W : World) (hgd : o.guard = none) (s x : Operand)
    (ho : o.op = .call { callee := .builtin .append, args := #[s, x], argTypes := #[t, t] })
    (ba : Option Addr) (n cp : Nat) (hs : a.eval s = .slice ba n cp) (hcp : n ≤ cp) (hx : a.eval x = .slice none 0 0)
    (h : wpList Try.prog ops Q rest (a.put o.dst (.slice ba n cp)) W) : wpList Try.prog ops Q (o :: rest) a W := by
  obtain ⟨i0, hi, hz0, hz1, hz2⟩ := info_parts he
  have hr := run_append_nothing (P := Try.prog) W t t o.type e i0 ht hi ba n cp hcp (.slice none 0 0) (Src.ofNil W ht 0)
  refine wpList_plain hgd fun K hK => ?_
  unfold Oper.wp execOp
  simp only [ho, resolve, invoke, builtin, Sem.run_bind, Sem.run_pure, Result.andThen_ok, List.map_toArray, List.map_cons, List.map_nil, hs, hx, hr]
  exact hK _ _ h

set_option maxRecDepth 100000 in
theorem grow_any (n : Nat) (w : World) (hn : n ≤ 10000) :
    Calls Try.prog 33 #[.slice none 0 0, .int .i64 n] w fun e w' => ∃ v, e = .returned v ∧ Prs 46 w' w.heap.size v [] ∧ Below w.heap.size w w' := by
  cases n with
  | zero =>
    go_enter Try.func33, Try.ntmps33
    go_wp2
    go_ret
    exact ⟨_, rfl, Prs.nil _ _ _, Below.refl _ _⟩
  | succ m =>
    have h0 : (0 : Int) < ((m + 1 : Nat) : Int) := by omega
    generalize hq : m + 1 = n at *
    have hpos := Lib.hid (show 0 < n by omega)
    clear hq
    go_enter Try.func33, Try.ntmps33
    go_wp2_with (with_reducible refine wp_prs_zeros Try.underlying25 Try.underlying3 two_S _ rfl (.tmp 20) (.tmp 21) rfl rfl n ?c0 ?c1 ?c2 ?c3)
    case c0 => first | rfl | simp
    case c1 => exact hpos.out
    case c2 => omega
    intro g c w2 hc hcm hp hb
    have HP := Lib.hid hp
    have HB := Lib.hid hb
    unfold maxLen at hcm
    clear hp hb
    go_wp2
    go_ret
    exact ⟨_, rfl, HP.out, HB.out⟩

def lenAt (A B : Nat) : Nat → Nat
  | 0 => 0
  | 1 => A
  | _ => A + B
def catAt (A B : List (Int × Int)) : Nat → List (Int × Int)
  | 0 => []
  | 1 => A
  | _ => A ++ B
set_option maxRecDepth 100000 in
set_option maxHeartbeats 2000000 in
theorem concat_any (g : Nat) (xa ya : Option Addr) (xc yc : Nat) (A B : List (Int × Int)) (w : World) (hA : A.length ≤ 2000) (hB : B.length ≤ 2000) (hx : SlP w xa A) (hy : SlP w ya B) (hg : Box w g 25 #[.slice xa A.length xc, .slice ya B.length yc]) :
    Calls Try.prog 32 #[.slice (some ⟨g, 0, none⟩) 2 2] w fun e w' => ∃ v, e = .returned v ∧ Prs 46 w' w.heap.size v (A ++ B) ∧ Below w.heap.size w w' := by
  have HX := Lib.hid hx
  have HY := Lib.hid hy
  have HG := Lib.hid hg
  clear hx hy hg
  go_enter Try.func32, Try.ntmps32
  go_wp2
  go_loopw [3, 11] (fun n i wr => ∃ k : Nat, k ≤ 2 ∧ i = .int .i64 k ∧ n = .int .i64 (lenAt A.length B.length k) ∧ Hid (Below w.heap.size w wr)) (fun _ i _ => 2 - (intOf i).toNat)
  case atStart => exact ⟨0, by omega, rfl, rfl, Below.refl _ _⟩
  case round =>
    obtain ⟨k, hk, rfl, rfl, HL⟩ := hrel
    have GK := HG.out.keep HL.out HG.out.lt
    have c0 := GK.cell 0 _ rfl
    have c1 := GK.cell 1 _ rfl
    rcases (show k = 0 ∨ k = 1 ∨ k = 2 by omega) with rfl | rfl | rfl
    · rw [show lenAt A.length B.length 0 = 0 from rfl]
      clear GK
      go_wp2
      go_roundw
      case rel => exact ⟨1, by omega, rfl, rfl, HL⟩
      case measure => simp [intOf]
    · rw [show lenAt A.length B.length 1 = A.length from rfl]
      clear GK
      go_wp2
      go_roundw
      case rel => exact ⟨2, by omega, rfl, by simp [lenAt], HL⟩
      case measure => simp [intOf]
    · rw [show lenAt A.length B.length 2 = A.length + B.length from rfl]
      have GG := Lib.hid GK
      have HX1 := Lib.hid (HX.out.keep HL.out)
      have HY1 := Lib.hid (HY.out.keep HL.out)
      have e : ((A.length + B.length : Nat) : Int) = (A.length : Int) + (B.length : Int) := by omega
      clear c0 c1 GK e
      go_wp2_with fail
      rw [show ((A.length : Int) + (B.length : Int)) = ((A.length + B.length : Nat) : Int) by omega]
      refine (grow_any (A.length + B.length) _ (by omega)).mono ?_
      rintro e w1 ⟨v1, rfl, hp, hb⟩
      have HP := Lib.hid (hp.base HL.out.size)
      have HB := Lib.hid (HL.out.trans (hb.mono HL.out.size))
      have HX2 := Lib.hid (HX1.out.keep hb)
      have HY2 := Lib.hid (HY1.out.keep hb)
      have G2 := Lib.hid (GG.out.keep hb GG.out.lt)
      clear hp hb hk HL HX1 HY1 GG
      go_wp2
      go_loopw [6, 27] (fun s i wr => ∃ (k : Nat) (v : Value), k ≤ 2 ∧ i = .int .i64 k ∧ s = v ∧ Hid (Prs 46 wr w.heap.size v (catAt A B k)) ∧ Hid (Below w.heap.size w wr)) (fun _ i _ => 2 - (intOf i).toNat)
      case atStart => exact ⟨0, _, by omega, rfl, rfl, HP, HB⟩
      case round =>
        clear HP HB HX2 HY2 G2
        obtain ⟨k, v, hk, rfl, rfl, HP, HB⟩ := hrel
        have GK := HG.out.keep HB.out HG.out.lt
        have c0 := GK.cell 0 _ rfl
        have c1 := GK.cell 1 _ rfl
        have HX1 := Lib.hid (HX.out.keep HB.out)
        have HY1 := Lib.hid (HY.out.keep HB.out)
        clear GK
        rcases (show k = 0 ∨ k = 1 ∨ k = 2 by omega) with rfl | rfl | rfl
        · go_wp2_with (with_reducible refine wp_prs_more Try.underlying25 two_S _ rfl (.tmp 31) (.tmp 32) rfl w.heap.size _ (catAt A B 0) rfl ?c1 xa xc A rfl ?c2 ?c3 ?c4 ?c6)
          case c1 => exact HP.out
          case c2 => exact HX1.out
          case c3 => show 0 + A.length ≤ 100000; omega
          case c4 => exact HB.out.size
          intro v' w2 hp hg
          have HP3 := Lib.hid hp
          have HB3 := Lib.hid (below_grow HB.out hg HP.out HB.out.size)
          clear hp hg c0 c1 HX1 HY1 HP HB
          go_wp2
          go_roundw
          case rel => exact ⟨1, _, by omega, rfl, rfl, HP3, HB3⟩
          case measure => simp [intOf]
        · go_wp2_with (with_reducible refine wp_prs_more Try.underlying25 two_S _ rfl (.tmp 31) (.tmp 32) rfl w.heap.size _ (catAt A B 1) rfl ?d1 ya yc B rfl ?d2 ?d3 ?d4 ?d6)
          case d1 => exact HP.out
          case d2 => exact HY1.out
          case d3 => show A.length + B.length ≤ 100000; omega
          case d4 => exact HB.out.size
          intro v' w2 hp hg
          have HP3 := Lib.hid hp
          have HB3 := Lib.hid (below_grow HB.out hg HP.out HB.out.size)
          clear hp hg c0 c1 HX1 HY1 HP HB
          go_wp2
          go_roundw
          case rel => exact ⟨2, _, by omega, rfl, rfl, HP3, HB3⟩
          case measure => simp [intOf]
        · clear c0 c1
          go_wp2
          go_ret
          exact ⟨_, rfl, HP.out, HB.out⟩

theorem concat_len (g : Nat) (xa ya : Option Addr) (xc yc la lb : Nat) (A B : List (Int × Int)) (w : World) (hla : A.length = la) (hlb : B.length = lb) (hA : la ≤ 2000) (hB : lb ≤ 2000) (hx : SlP w xa A) (hy : SlP w ya B) (hg : Box w g 25 #[.slice xa la xc, .slice ya lb yc]) :
    Calls Try.prog 32 #[.slice (some ⟨g, 0, none⟩) 2 2] w fun e w' => ∃ v, e = .returned v ∧ Prs 46 w' w.heap.size v (A ++ B) ∧ Below w.heap.size w w' := by
  subst hla hlb
  exact concat_any g xa ya xc yc A B w hA hB hx hy hg
theorem slP_take {w : World} {g : Nat} {l : List (Int × Int)} (f : Nat) (hlt : g < w.heap.size) (h : ∀ j u, (l.flatMap PrV)[j]? = some u → w.cell? ⟨g, j, none⟩ = some u) : SlP w (some ⟨g, 0, none⟩) (l.take f) := by
  have H := slP_flat hlt h
  intro hne
  have hne' : l ≠ [] := by intro e; subst e; simp at hne
  obtain ⟨b, off, e, hb, hc⟩ := H hne'
  refine ⟨b, off, e, hb, fun i x hx => hc i x ?_⟩
  rw [List.getElem?_take] at hx
  split at hx
  · exact hx
  · cases hx
theorem slP_drop {w : World} {g : Nat} {l : List (Int × Int)} (t : Nat) (hlt : g < w.heap.size) (h : ∀ j u, (l.flatMap PrV)[j]? = some u → w.cell? ⟨g, j, none⟩ = some u) : SlP w (some ⟨g, t * 2, none⟩) (l.drop t) := by
  have H := slP_flat hlt h
  intro hne
  have hne' : l ≠ [] := by intro e; subst e; simp at hne
  obtain ⟨b, off, e, hb, hc⟩ := H hne'
  injection e with e
  injection e with e1 e2
  subst e1 e2
  refine ⟨g, t * 2, rfl, hb, fun i x hx => ?_⟩
  rw [List.getElem?_drop] at hx
  have h2 := hc (t + i) x hx
  rw [Nat.zero_add] at h2
  rw [show t * 2 + i * 2 = (t + i) * 2 by omega]
  exact h2
end Go.Proofs.Ytmndeohhanbjkaa
