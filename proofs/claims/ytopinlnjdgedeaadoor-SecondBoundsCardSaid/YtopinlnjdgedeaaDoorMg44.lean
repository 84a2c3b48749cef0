/-
  Texts put together: SecondBoundsWalk, Door.
-/
import Derived.Test.YtopinlnjdgedeaaDoorMg43
import Derived.Test.YtopinlnjdgedeaaDoorMg0
import Derived.Test.YtopinlnjdgedeaaDoorRows
import Derived.Test.YtopinlnjdgedeaaDoorMix
import Derived.Lib.LaidTab
import Derived.LaidMore
import Derived.Stop.Joined
namespace Go.Proofs.YtopinlnjdgedeaaDoor.secondBounds
open Go.RowKit

/-- Is it a sector of the region? -/
def InR (f n : Nat) (l : Int × Int) : Prop := l.1 = 1 ∧ (f : Int) ≤ l.2 ∧ l.2 < (f : Int) + n
/-- Devices that were written to in the region alone. -/
structure BdD (f n : Nat) (d : DevD) : Prop where
  s0 : devSize d 0 = 4
  s1 : devSize d 1 = 40
  l0 : devLost d 0 = false
  l1 : devLost d 1 = false
  w : ∀ x ∈ d.waits, InR f n x.1
  has : ∀ l, ¬ InR f n l → locOk d l → hasAt d l = ⟨#[]⟩
  tell : ∀ l, ¬ InR f n l → locOk d l → tellD d l = ⟨#[]⟩
theorem BdD.new (f n : Nat) : BdD f n (newD 4 40) := by
  refine ⟨rfl, rfl, rfl, rfl, fun x h => (by cases h), fun l _ _ => ?_, fun l _ _ => new_tell 40 l⟩
  unfold hasAt sideOf newD newS
  split <;> (rw [List.getD, List.getElem?_replicate]; split <;> rfl)
theorem BdD.write {f n : Nat} {d : DevD} (h : BdD f n d) {l : Int × Int} {t : ByteArray} (hl : InR f n l) : BdD f n (writeD d l t) := by
  refine ⟨by rw [size_writeD]; exact h.s0, by rw [size_writeD]; exact h.s1, by rw [lost_writeD]; exact h.l0, by rw [lost_writeD]; exact h.l1, fun x hx => ?_, fun k hk ho => ?_, fun k hk ho => ?_⟩
  · rw [writeD_waits] at hx
    split at hx
    · rcases List.mem_append.1 hx with h1 | h1
      · exact h.w x h1
      · rw [List.mem_singleton.1 h1]; exact hl
    · exact h.w x hx
  · have ho2 : locOk d k := by unfold locOk at *; rw [size_writeD] at ho; exact ho
    rw [← h.has k hk ho2]
    exact hasAt_cong (writeD_has d l t) k
  · have ho2 : locOk d k := by unfold locOk at *; rw [size_writeD] at ho; exact ho
    rw [tell_same (fun e => hk (by rw [e]; exact hl))]
    exact h.tell k hk ho2
theorem fold_out {f n : Nat} : ∀ (ws : List WrD) {d : DevD}, (∀ x ∈ ws, InR f n x.1 ∧ locOk d x.1) → ∀ l, ¬ InR f n l → locOk d l → hasAt (foldHas d ws) l = hasAt d l
  | [], _, _, _, _, _ => rfl
  | x :: r, d, hw, l, hl, ho => by
    have hx := hw x List.mem_cons_self
    have hsz : ∀ y, locOk d y → locOk (setHas d x.1 x.2) y := fun y hy => by unfold locOk at *; rw [size_setHas]; exact hy
    show hasAt (foldHas (setHas d x.1 x.2) r) l = _
    rw [fold_out r (fun y hy => ⟨(hw y (List.mem_cons_of_mem _ hy)).1, hsz _ (hw y (List.mem_cons_of_mem _ hy)).2⟩) l hl (hsz _ ho), hasAt_set _ _ _ _ hx.2 ho, if_neg]
    intro e
    exact hl (by rw [← e]; exact hx.1)
theorem in_ok {f n : Nat} {d : DevD} (h : BdD f n d) (hfn : f + n ≤ 40) {l : Int × Int} (hl : InR f n l) : locOk d l := by
  obtain ⟨h1, h2, h3⟩ := hl
  refine ⟨.inr h1, by omega, ?_⟩
  rw [h1, h.s1]
  omega
theorem BdD.flush {f n : Nat} {d : DevD} (h : BdD f n d) (hfn : f + n ≤ 40) : BdD f n (flushD d) := by
  have hw : ∀ x ∈ d.waits, InR f n x.1 ∧ locOk d x.1 := fun x hx => ⟨h.w x hx, in_ok h hfn (h.w x hx)⟩
  have hlo : ∀ k, locOk (flushD d) k → locOk d k := fun k ho => by unfold locOk flushD at *; rw [size_endD] at ho; exact ho
  have hh : ∀ k, ¬ InR f n k → locOk d k → hasAt (foldHas d d.waits) k = ⟨#[]⟩ := fun k hk ho => by rw [fold_out d.waits hw k hk ho, h.has k hk ho]
  refine ⟨by unfold flushD; rw [size_endD]; exact h.s0, by unfold flushD; rw [size_endD]; exact h.s1, by unfold flushD; rw [lost_endD]; exact h.l0, by unfold flushD; rw [lost_endD]; exact h.l1, fun x hx => (by cases hx), fun k hk ho => ?_, fun k hk ho => ?_⟩
  · rw [← hh k hk (hlo k ho)]
    unfold hasAt sideOf
    split <;> rfl
  · have ho2 := hlo k ho
    have hc : chkD d k 0 = 0 := by
      unfold chkD
      obtain ⟨q1, q2, q3⟩ := ho2
      rw [if_neg (by omega)]
      rcases q1 with e | e <;> rw [e]
      · rw [h.l0]; rfl
      · rw [h.l1]; rfl
    unfold flushD
    rw [tell_endD d d.waits k hc]
    exact hh k hk ho2
/-- A cache of the region. -/
structure BdX (f n c : Nat) (x : SecD) : Prop where
  hf : x.f = f
  hn : x.n = n
  hand : x.hand < roomN n
  len : x.e.length ≤ c
theorem in_log {f n h : Nat} (hh : h < roomN n) : InR f n (1, ((secN f (grp h) - 1 : Nat) : Int)) := by
  rw [grp_eq]
  have := lsec_eq f (h / 7)
  refine ⟨rfl, ?_, ?_⟩
  · show (f : Int) ≤ ((secN f (7 * (h / 7)) - 1 : Nat) : Int)
    rw [this]; omega
  · show ((secN f (7 * (h / 7)) - 1 : Nat) : Int) < (f : Int) + n
    rw [this]
    unfold roomN at hh
    omega
theorem in_sec {f n h : Nat} (hh : h < roomN n) : InR f n (1, ((secN f h : Nat) : Int)) := by
  have := secN_lt (f := f) hh
  have h2 := secN_ge f h
  exact ⟨rfl, by show (f : Int) ≤ ((secN f h : Nat) : Int); omega, by show ((secN f h : Nat) : Int) < (f : Int) + n; omega⟩
theorem feed_in {f n c : Nat} {d : DevD} {x : SecD} (hd : BdD f n d) (hx : BdX f n c x) (hfn : f + n ≤ 40) (h2 : 2 ≤ n) (hw : d.waits.length ≤ 1) (key load : ByteArray) :
    BdD f n (feedX d x key load).2.1 ∧ BdX f n (c + 1) (feedX d x key load).2.2 ∧ (feedX d x key load).2.1.waits.length ≤ 1 := by
  have hsame : BdD f n d ∧ BdX f n (c + 1) x ∧ d.waits.length ≤ 1 := ⟨hd, ⟨hx.hf, hx.hn, hx.hand, Nat.le_succ_of_le hx.len⟩, hw⟩
  unfold feedX
  split
  · exact hsame
  · split
    · exact hsame
    · split
      · exact hsame
      · have hl1 : InR f n (logL (dropX x (atX x))) := by
          have := in_log (f := f) hx.hand
          show InR f n (1, ((secN x.f (grp x.hand) - 1 : Nat) : Int))
          rw [hx.hf]
          exact this
        have ha : InR f n (1, atX x) := by
          have := in_sec (f := f) hx.hand
          show InR f n (1, ((secN x.f x.hand : Nat) : Int))
          rw [hx.hf]
          exact this
        have hl2 : InR f n (logL (midX x key load)) := hl1
        have hm : BdD f n (midD d x load) := ((((hd.write (t := logT (dropX x (atX x))) hl1).flush hfn).write (t := load) ha).flush hfn)
        refine ⟨hm.write hl2, ⟨hx.hf, hx.hn, ?_, ?_⟩, ?_⟩
        · show (x.hand + 1) % roomN x.n < roomN n
          rw [hx.hn]
          exact Nat.mod_lt _ (room_pos h2)
        · show (putS (forgetS x.e (atX x)) (atX x) (newE x key load)).length ≤ c + 1
          have h1 := sput_len (l := forgetS x.e (atX x)) (atX x) (newE x key load)
          have h3 := sforget_le x.e (atX x)
          have h4 := hx.len
          omega
        · show (writeD (midD d x load) (logL (midX x key load)) (logT (midX x key load))).waits.length ≤ 1
          have := writeD_len (midD d x load) (logL (midX x key load)) (logT (midX x key load))
          rw [show (midD d x load).waits = [] from rfl] at this
          exact this
theorem wf_int {a : Int} (h : (Lit.int .i64 a).wf = true) : -9223372036854775808 ≤ a ∧ a ≤ 9223372036854775807 := by
  have h3 : IntKind.i64.min ≤ a ∧ a ≤ IntKind.i64.max := by simpa [Lit.wf] using h
  rw [show IntKind.i64.min = -9223372036854775808 from rfl, show IntKind.i64.max = 9223372036854775807 from rfl] at h3
  exact h3
theorem wrap40 {a : Int} (h : -9223372036854775808 ≤ a ∧ a ≤ 9223372036854775807) (h2 : 2 ≤ a) : wrap64 (40 - a) = 40 - a ∧ IntKind.i64.wrap (40 - a) = 40 - a := ⟨IntWalk.wrap64_in _ (by omega), IntWalk.i64_in _ ⟨by omega, by omega⟩⟩
theorem keyF_at2 {l : List FdD} {i : Nat} (h : i < l.length) : (l[i]).1 = keyF l i ∧ (l[i]).2 = txtF l i := ⟨(keyF_at h).1.symm, (keyF_at h).2.symm⟩
/-- What stands between two Feeds. -/
def BeJ (f n B b s c : Nat) (w W : World) : Prop := ∃ d x, BdD f n d ∧ BdX f n c x ∧ d.waits.length ≤ 1 ∧ One B (Both NoP (ScF s b x)) b d W ∧ Below B w W
theorem meas_c {m k : Nat} (h : k < m) (hw : wrap64 ((k : Int) + 1) = k + 1) : m - (RowKit.intOf (.int .i64 (wrap64 ((k : Int) + 1)))).toNat < m - (RowKit.intOf (.int .i64 (k : Int))).toNat := meas_lt h hw
theorem meas_lt2 {m k : Nat} (h : k < m) (hw : wrap64 ((k : Int) + 1) = k + 1) : m - (RowKit.intOf (.int .i64 ((k : Int) + 1))).toNat < m - (RowKit.intOf (.int .i64 (k : Int))).toNat := by
  have := meas_lt h hw
  rwa [hw] at this
theorem read_bd {f n q k : Nat} {d : DevD} (h : BdD f n d) (hq : q < 2) (hk : k < devSize d (q : Int)) : chkD d ((q : Int), (k : Int)) 0 = 0 ∧ (tellD d ((q : Int), (k : Int)) = ⟨#[]⟩ ∨ (q = 1 ∧ f ≤ k ∧ k < f + n)) := by
  have hlo : locOk d ((q : Int), (k : Int)) := ⟨by show (q : Int) = 0 ∨ (q : Int) = 1; omega, by show (0 : Int) ≤ (k : Int); omega, by show (k : Int) < ((devSize d (q : Int) : Nat) : Int); omega⟩
  refine ⟨?_, ?_⟩
  · unfold chkD
    obtain ⟨q1, q2, q3⟩ := hlo
    rw [if_neg (by omega)]
    rcases q1 with e | e <;> rw [e]
    · rw [h.l0]; rfl
    · rw [h.l1]; rfl
  · by_cases hi : InR f n ((q : Int), (k : Int))
    · obtain ⟨h1, h2, h3⟩ := hi
      simp only at h1 h2 h3
      exact .inr ⟨by omega, by omega, by omega⟩
    · exact .inl (h.tell _ hi hlo)

set_option maxRecDepth 100000 in
set_option maxHeartbeats 4000000 in
theorem walk (w : World) (hK : Kt w) (x0 : Option Addr) (c0 : Nat) (l0 : List FdD) (s0 : SlE w 2 FdK x0 l0) (_m0 : l0.length ≤ maxLen) (a1 : Int) (_w1 : (Lit.int .i64 a1).wf = true) (a2 : Int) (w2 : (Lit.int .i64 a2).wf = true) :
    Calls Tryd.prog 6 #[.slice x0 l0.length c0, .int .i64 a1, .int .i64 a2] w fun e w' => e = .returned (.bool true) ∧ Below w.heap.size w w' := by
  have HK := Lib.hid hK
  have HBP := Lib.hid hK.pos
  have HS := Lib.hid s0
  have hwf := wf_int w2
  have HLV : Hid (∀ W, Below w.heap.size w W → Calls Tryd.prog 8 #[] W fun e w' => e = .returned (.bool true) ∧ Below W.heap.size W w') := fun W hb => live14 W (HK.out.below hb HBP.out)
  clear hK s0 w2
  go_enter Tryd.func6, Tryd.ntmps6
  by_cases hl : (30 : Int) < (l0.length : Int)
  · go_wp2_with fail
    refine (HLV.out _ (Below.refl _ _)).mono ?_
    rintro e w2 ⟨rfl, hb⟩
    have HB2 := Lib.hid hb
    clear hb
    go_wp2
    go_ret
    exact ⟨rfl, HB2.out⟩
  · by_cases hn0 : a1 < 0
    · go_wp2_with fail
      refine (HLV.out _ (Below.refl _ _)).mono ?_
      rintro e w2 ⟨rfl, hb⟩
      have HB2 := Lib.hid hb
      clear hb
      go_wp2
      go_ret
      exact ⟨rfl, HB2.out⟩
    · by_cases hn1 : a2 < 2
      · go_wp2_with fail
        refine (HLV.out _ (Below.refl _ _)).mono ?_
        rintro e w2 ⟨rfl, hb⟩
        have HB2 := Lib.hid hb
        clear hb
        go_wp2
        go_ret
        exact ⟨rfl, HB2.out⟩
      · obtain ⟨w40, i40⟩ := wrap40 hwf (by omega)
        by_cases hn2 : 40 - a2 < a1
        · go_wp2_with fail
          refine (HLV.out _ (Below.refl _ _)).mono ?_
          rintro e w2 ⟨rfl, hb⟩
          have HB2 := Lib.hid hb
          clear hb
          go_wp2
          go_ret
          exact ⟨rfl, HB2.out⟩
        · obtain ⟨f, rfl⟩ : ∃ f : Nat, a1 = f := ⟨a1.toNat, by omega⟩
          obtain ⟨n, rfl⟩ : ∃ n : Nat, a2 = n := ⟨a2.toNat, by omega⟩
          have HN : Hid (2 ≤ n ∧ f + n ≤ 40 ∧ l0.length ≤ 30) := ⟨by omega, by omega, by omega⟩
          obtain ⟨B, hB⟩ : ∃ B, B = w.heap.size := ⟨_, rfl⟩
          have HZ : Hid (B = w.heap.size ∧ 0 < B) := ⟨hB, by rw [hB]; exact HBP.out⟩
          have HNEW := Lib.hid (one_new B fixed_no 4 40 w (Nat.le_of_eq hB) ⟨[], rfl, fun k hk => by cases hk⟩ (by decide) (by decide))
          have HF1 := Lib.hid (fun (s b : Nat) (x : SecD) => fixed_both fixed_no (fixed_sc s b x))
          clear hB hwf
          go_wp2_with fail
          refine HNEW.out.mono ?_
          rintro e w2 ⟨b, rfl, ho, hb⟩
          have HO := Lib.hid ho
          have HBL := Lib.hid hb
          clear ho hb HNEW
          have HOP := Lib.hid (open_ok fixed_no HO.out f n HN.out.1 (by rw [new_size]; exact HN.out.2.1) (by rw [new_size]; decide) (HK.out.below HBL.out HZ.out.2) HZ.out.2 (mil_of (Tiny.new 4 40)))
          go_wp2_with fail
          refine HOP.out.mono ?_
          rintro e w3 ⟨s, rfl, ho, hb⟩
          have HJ0 : Hid (BeJ f n B b s 0 w w3) := by
            have h1 := ho
            rw [rec_new (new_tell 40)] at h1
            exact ⟨newD 4 40, newX f n, BdD.new f n, ⟨rfl, rfl, room_pos HN.out.1, Nat.le_refl _⟩, Nat.zero_le _, h1, HBL.out.trans hb⟩
          clear ho hb HOP HO HBL hn0 hn1 hn2 w40 i40
          go_wp2
          go_loopw [9] (fun iv wr => ∃ i : Nat, i ≤ l0.length ∧ iv = .int .i64 i ∧ Hid (BeJ f n B b s i w wr)) (fun iv _ => l0.length - (RowKit.intOf iv).toNat)
          case atStart => exact ⟨0, Nat.zero_le _, rfl, HJ0⟩
          case round =>
            clear HJ0
            obtain ⟨i, hi, rfl, HJ⟩ := hrel
            obtain ⟨d, x, hbd, hbx, hwt, hone, hbl⟩ := HJ.out
            have HBD := Lib.hid hbd
            have HBX := Lib.hid hbx
            have HWT := Lib.hid hwt
            have HOX := Lib.hid hone
            have HBL := Lib.hid hbl
            clear hbd hbx hwt hone hbl HJ
            by_cases hlt : i < l0.length
            · obtain ⟨bb, off, rfl, hbb, e0, e1⟩ := HS.out.fed (by rw [← HZ.out.1]; exact HBL.out) i hlt
              have hw1 : wrap64 ((i : Int) + 1) = i + 1 := IntWalk.wrap64_in _ (by have := HN.out.2.2; omega)
              rw [(keyF_at2 hlt).1] at e0
              rw [(keyF_at2 hlt).2] at e1
              have hi0 : (0 : Int) ≤ (i : Int) := by omega
              have hil : (i : Int) < (l0.length : Int) := by omega
              have hod := HOX.out.keep (HF1.out s b x) (Below.refl _ wr).drew
              have HFE := Lib.hid (feed_any fixed_no hod (by rw [HBX.out.hf]; have := HN.out.2.1; omega) (by rw [HBX.out.hn]; have := HN.out.2.1; omega) (by rw [HBX.out.hn]; exact HN.out.1) (HK.out.below HBL.out.drew HZ.out.2) HZ.out.2 (by have := HBX.out.hand; have h2 := room_le n; have := HN.out.2.1; omega) (Nat.le_trans HWT.out (by decide)) (by have := HBX.out.len; have := HN.out.2.2; omega) (keyF l0 i) (txtF l0 i))
              have HIN := Lib.hid (feed_in HBD.out HBX.out HN.out.2.1 HN.out.1 HWT.out (keyF l0 i) (txtF l0 i))
              obtain ⟨rr, hrr⟩ : ∃ rr, rr = feedX d x (keyF l0 i) (txtF l0 i) := ⟨_, rfl⟩
              rw [← hrr] at HFE HIN
              obtain ⟨r1, r2, r3⟩ := rr
              have HLT := Lib.hid hlt
              clear hbb hlt hrr hod
              go_wp2_with fail
              refine wp_region_tree (fun W => W.cell? ⟨bb, off + i * 2, none⟩ = some (.string (keyF l0 i)) ∧ W.cell? ⟨bb, off + i * 2 + 1, none⟩ = some (.string (txtF l0 i))) 11 (.quiet 0 (.quiet 1 (.quiet 2 (.quiet 3 (.quiet 4 (.quiet 5 (.quiet 6 (.quiet 7 (.quiet 8 (.quiet 9 (.quiet 10 .nil))))))))))) (by kernel_rfl) (by kernel_rfl) ⟨e0, e1⟩ ?_
              simp only [List.drop_succ_cons, List.drop_zero]
              iterate 11 (apply wpTr_step rfl; (intro W hS K hK; obtain ⟨r1, r2⟩ := hS; go_simp; exact hK _ rfl))
              refine wpTr_nil ?_
              go_wp2_with fail
              refine HFE.out.mono ?_
              rintro e w5 ⟨rfl, ho, hb⟩
              have HJX : Hid (BeJ f n B b s (i + 1) w w5) := ⟨_, _, HIN.out.1, HIN.out.2.1, HIN.out.2.2, ho, (HBL.out.drew).trans hb⟩
              clear ho hb HFE e0 e1
              go_wp2
              go_roundw
              case rel => exact ⟨i + 1, HLT.out, rfl, HJX⟩
              case measure => exact meas_lt2 HLT.out hw1
            · have hii : ¬ (i : Int) < (l0.length : Int) := by omega
              clear hlt hi
              go_wp2
              clear hii
              rename_i hjunk1 hjunk2 hjunk3
              go_loopw [10] (fun qv wr => ∃ q : Nat, q ≤ 2 ∧ qv = .int .i64 q ∧ Hid (One B (Both NoP (ScF s b x)) b d wr ∧ Below B w wr)) (fun qv _ => 2 - (RowKit.intOf qv).toNat)
              case atStart => exact ⟨0, Nat.zero_le _, rfl, HOX.out, HBL.out⟩
              case round =>
                clear HOX HBL
                obtain ⟨q, hq, rfl, HJ⟩ := hrel
                by_cases hq2 : q < 2
                · have dq : (q : Int) < 2 := by omega
                  have dq2 : decide ((q : Int) < 2) = true := decide_eq_true dq
                  have hwq : wrap64 ((q : Int) + 1) = q + 1 := IntWalk.wrap64_in _ (by omega)
                  have HQ := Lib.hid hq2
                  obtain ⟨sz, hsz⟩ : ∃ sz, sz = devSize d (q : Int) := ⟨_, rfl⟩
                  have HSZ : Hid (sz = devSize d (q : Int) ∧ sz ≤ 40) := ⟨hsz, by
                    rw [hsz]
                    have : q = 0 ∨ q = 1 := by omega
                    rcases this with e | e <;> subst e
                    · exact Nat.le_trans (Nat.le_of_eq HBD.out.s0) (by decide)
                    · exact Nat.le_of_eq HBD.out.s1⟩
                  clear hq2 hq hsz
                  go_wp2
                  clear dq dq2
                  go_loopw [11] (fun kv wr => ∃ k : Nat, k ≤ sz ∧ kv = .int .i64 k ∧ Hid (One B (Both NoP (ScF s b x)) b d wr ∧ Below B w wr)) (fun kv _ => sz - (RowKit.intOf kv).toNat)
                  case atStart => exact ⟨0, Nat.zero_le _, rfl, HJ.out⟩
                  case round =>
                    clear HJ
                    obtain ⟨k, hk, rfl, HJ⟩ := hrel
                    by_cases hk2 : k < sz
                    · have hwk : wrap64 ((k : Int) + 1) = k + 1 := IntWalk.wrap64_in _ (by have := HSZ.out.2; omega)
                      have dk : (k : Int) < (sz : Int) := by omega
                      have HKK := Lib.hid hk2
                      have HSI := Lib.hid (one_size HJ.out.1 (q : Int))
                      rw [← HSZ.out.1] at HSI
                      have HRD := Lib.hid (one_readS (HF1.out s b x) HJ.out.1 ((q : Int), (k : Int)))
                      obtain ⟨hchk, htell⟩ := read_bd HBD.out HQ.out (k := k) (by rw [← HSZ.out.1]; exact hk2)
                      rw [hchk] at HRD
                      obtain ⟨t, ht⟩ : ∃ t, t = tellD d ((q : Int), (k : Int)) := ⟨_, rfl⟩
                      rw [← ht] at HRD htell
                      clear hchk ht hk2 hk
                      unfold locV at HRD
                      go_wp2_with fail
                      refine HSI.out.mono ?_
                      rintro e w6 ⟨rfl, rfl⟩
                      go_wp2_with fail
                      refine HRD.out.mono ?_
                      rintro e w6 ⟨rfl, ho, hb⟩
                      have HX6 : Hid (One B (Both NoP (ScF s b x)) b d w6 ∧ Below B w w6) := ⟨ho, HJ.out.2.trans (hb.mono HJ.out.1.1)⟩
                      clear ho hb HSI HRD
                      by_cases hte : t.size = 0
                      · obtain rfl : t = ⟨#[]⟩ := str_zero hte
                        clear hte htell
                        go_wp2
                        go_roundw
                        case rel => exact ⟨k + 1, HKK.out, by rw [hwk]; rfl, HX6⟩
                        case measure => exact meas_lt HKK.out hwk
                      · have dt : (t.toList == []) = false := str_nz (by omega)
                        have hin : q = 1 ∧ f ≤ k ∧ k < f + n := by
                          rcases htell with h | h
                          · exact absurd (by rw [h]; rfl) hte
                          · exact h
                        obtain ⟨hq1, h1, h2⟩ := hin
                        have dq0 : ((q : Int) == 0) = false := by rw [beq_eq_false_iff_ne]; omega
                        have dq1 : ¬ (q = 0) := by omega
                        clear hq1
                        have dd1 : ¬ (k : Int) < (f : Int) := by omega
                        have hfn : wrap64 ((f : Int) + (n : Int)) = (f : Int) + n := IntWalk.wrap64_in _ (by have := HN.out.2.1; omega)
                        have dd2 : ¬ (f : Int) + (n : Int) ≤ (k : Int) := by omega
                        clear hte htell h1 h2
                        go_wp2
                        go_roundw
                        case rel => exact ⟨k + 1, HKK.out, by rw [hwk]; rfl, HX6⟩
                        case measure => exact meas_lt HKK.out hwk
                    · have dk : ¬ (k : Int) < (sz : Int) := by omega
                      have HSI := Lib.hid (one_size HJ.out.1 (q : Int))
                      rw [← HSZ.out.1] at HSI
                      clear hk2 hk
                      go_wp2_with fail
                      refine HSI.out.mono ?_
                      rintro e w6 ⟨rfl, rfl⟩
                      go_wp2
                      go_roundw
                      case rel => exact ⟨q + 1, HQ.out, by rw [hwq]; rfl, HJ⟩
                      case measure => exact meas_lt HQ.out hwq
                · obtain rfl : q = 2 := by omega
                  have HBW : Hid (Below w.heap.size w wr) := by show Below w.heap.size w wr; rw [← HZ.out.1]; exact HJ.out.2
                  clear hq2 hq
                  go_wp2_with fail
                  refine (HLV.out _ HBW.out).mono ?_
                  rintro e w6 ⟨rfl, hb⟩
                  have HB6 := Lib.hid (HBW.out.trans (hb.mono HBW.out.size))
                  clear hb
                  go_wp2
                  go_ret
                  exact ⟨rfl, HB6.out⟩
end Go.Proofs.YtopinlnjdgedeaaDoor.secondBounds

namespace Go.Proofs.YtopinlnjdgedeaaDoor
open Go.ChangeShapes Go.WideShapes Go.ChangeAt Go.RowKit

theorem gRoots : Tryd.prog.globalNamed (Rows.secondNilRow.named.headD "") = some 0 := by kernel_rfl
theorem gRootsType : (Tryd.prog.globals[0]?).map (·.type) = some 127 := by kernel_rfl
theorem cells32 : Tryd.prog.cellsOf 88 = 1 := by kernel_rfl
theorem cells64 : Tryd.prog.cellsOf 127 = 64 := by kernel_rfl

def kInts : List Int := kTab.map Int.ofNat

theorem door_met (os : Os) (args : Array Value) : laidMetH Tryd.prog Rows.secondNilRow.laid ((World.doorLaid Tryd.prog 400 os).forCall (fun _ _ => 0) ⟨#[], args, []⟩).memory :=
  laidMetH_of_parts3 (fuel := 8) (laidMet_of_run' 8 (by kernel_rfl) (by kernel_rfl)) (by kernel_rfl) (by kernel_rfl)

theorem laid_tab : Rows.secondNilRow.laid = [(Rows.secondNilRow.named.headD "", Lib.tabData .u32 kInts)] := rfl

theorem kt_of_laid {W : World} (h : laidMetH Tryd.prog Rows.secondNilRow.laid W) : Kt W := by
  rw [MakeChecks.laidMetH_plain _ _ _ (by kernel_rfl), laid_tab] at h
  have hT := Lib.tabIs_of_head gRoots gRootsType Tryd.underlying127 Tryd.underlying88 cells32 cells64 h
  intro t ht
  have hl : t < kTab.length := by show t < 64; exact ht
  have hc := hT.cell gRoots t (by simpa [kInts] using hl)
  rw [hc]
  congr 2
  simp [kInts, List.getD, List.getElem?_eq_getElem hl]
end Go.Proofs.YtopinlnjdgedeaaDoor
