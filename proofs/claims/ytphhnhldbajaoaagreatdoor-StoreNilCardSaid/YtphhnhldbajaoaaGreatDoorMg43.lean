/-
  Texts put together: StX, StLp, RefPos, RefEnd, PtrOnC, PtrSameC, PtrRefC.
-/
import Derived.Test.YtphhnhldbajaoaaGreatDoorStW
import Derived.Test.YtphhnhldbajaoaaGreatDoorMg33
import Derived.Test.YtphhnhldbajaoaaGreatDoorMg27
import Derived.Test.YtphhnhldbajaoaaGreatDoorMg39
import Derived.Test.YtphhnhldbajaoaaGreatDoorMg12
namespace Go.Proofs.YtphhnhldbajaoaaGreatDoor
open Go.RowKit Go.ChangeShapes Go.WideShapes Go.ChangeAt

theorem size_wrB (t : ByteArray) (v : Int) : ∀ (locs : List (Int × Int)) (d : DevD), devSize (wrB d locs t) v = devSize d v
  | [], _ => rfl
  | x :: r, d => by
    show devSize (wrB (writeD d x t) r t) v = _
    rw [size_wrB t v r, size_writeD]
theorem tiny_wrB (t : ByteArray) : ∀ (locs : List (Int × Int)) {d : DevD}, Tiny d → Tiny (wrB d locs t)
  | [], _, h => h
  | x :: r, _, h => tiny_wrB t r (h.write x t)
theorem waits_wrB (t : ByteArray) : ∀ (locs : List (Int × Int)) (d : DevD), (wrB d locs t).waits.length ≤ d.waits.length + locs.length
  | [], _ => Nat.le_refl _
  | x :: r, d => by
    have h1 := waits_wrB t r (writeD d x t)
    have h2 := waits_write d x t
    show (wrB (writeD d x t) r t).waits.length ≤ _
    simp only [List.length_cons]
    omega
theorem setF_len {σ : StD} {f : List Bool × List Bool} {side : Int} {u : List Bool} (h : f.1.length = σ.u0.length ∧ f.2.length = σ.u1.length) (hu : u.length = (if side = 0 then σ.u0 else σ.u1).length) : (setF f side u).1.length = σ.u0.length ∧ (setF f side u).2.length = σ.u1.length := by
  unfold setF
  by_cases hs : side = 0
  · rw [if_pos hs] at hu ⊢; exact ⟨hu, h.2⟩
  · rw [if_neg hs] at hu ⊢; exact ⟨h.1, hu⟩
theorem takes_len {σ : StD} : ∀ (devs : List Int) {f : List Bool × List Bool} {acc : List (Int × Int)} {r : (List Bool × List Bool) × List (Int × Int)}, f.1.length = σ.u0.length ∧ f.2.length = σ.u1.length → takesS σ devs f acc = some r → r.1.1.length = σ.u0.length ∧ r.1.2.length = σ.u1.length
  | [], f, acc, r, hf, h => by
    unfold takesS at h
    injection h with h
    rw [← h]; exact hf
  | side :: devs, f, acc, r, hf, h => by
    unfold takesS at h
    split at h
    · cases h
    · exact takes_len devs (setF_len hf (by rw [List.length_set])) h
theorem wf_putOn {few : Nat} {σ : StD} (h : WfS few σ) (t : ByteArray) (devs : List Int) : WfS (few + 2) (putOnS σ t devs).2 := by
  unfold putOnS
  split
  · exact h.more (by omega)
  · next hc =>
    have hc : t.size ≤ 960 ∧ holdT devs = true := by
      by_cases hh : t.size ≤ 960 ∧ holdT devs = true
      · exact hh
      · exact absurd hh hc
    split
    · exact h.more (by omega)
    · next f locs hk =>
      obtain ⟨e0, e1⟩ := takes_len devs (f := (σ.u0, σ.u1)) ⟨rfl, rfl⟩ hk
      obtain ⟨_, _, _, h2⟩ := takes_good h hc.2 hc.1 hk
      have g := h.more (Nat.le_add_right few 2)
      refine ⟨fun v => by show devSize (wrB σ.d locs t) v ≤ 512; rw [size_wrB]; exact h.sz v, h.pol, h.txg, ?_, ?_, h.arc, tiny_wrB t locs h.tiny, ?_, g.kept, g.hits, g.sec⟩
      · show f.1.length = devSize (wrB σ.d locs t) 0
        rw [size_wrB, ← h.r0]; exact e0
      · show f.2.length = devSize (wrB σ.d locs t) 1
        rw [size_wrB, ← h.r1]; exact e1
      · have h3 := waits_wrB t locs σ.d
        have h4 := h.waits
        show (wrB σ.d locs t).waits.length ≤ few + 2
        omega
theorem wf_stoPut {few : Nat} {σ : StD} (h : WfS few σ) (k : Int) (t : ByteArray) : WfS (few + 2) (stoPut σ k t).2 := by
  unfold stoPut
  dsimp only
  split
  · exact h.more (by omega)
  · exact wf_putOn h t _
theorem wf_get {few : Nat} {σ : StD} (h : WfS few σ) (ref : ByteArray) : WfS (few + 3) (getS σ ref).2 := by
  unfold getS
  split
  · exact h.more (by omega)
  · next hc => exact wf_go ref (dec_ok (by simpa using hc)).1 _ 3 0 h
theorem new_tells (m n : Nat) (l : Int × Int) : tellD (newD m n) l = ⟨#[]⟩ := by
  unfold tellD
  split
  · unfold sideOf newD newS
    split
    · rw [List.getD, List.getElem?_replicate]
      split <;> rfl
    · rw [List.getD, List.getElem?_replicate]
      split <;> rfl
  · rfl
theorem new_sizes (m n : Nat) : devSize (newD m n) 0 = m ∧ devSize (newD m n) 1 = n ∧ ∀ t, t ≠ 0 → t ≠ 1 → devSize (newD m n) t = 0 := by
  refine ⟨List.length_replicate .., List.length_replicate .., fun t h0 h1 => ?_⟩
  unfold devSize
  rw [if_neg h0, if_neg h1]
theorem inv_newA {c : Int} (h1 : 1 ≤ c) (h2 : c ≤ 64) : OkA (newDA c) ∧ InvA (newDA c) ∧ BndA (newDA c) ∧ ∀ k, 1 ≤ tK (newDA c) k → k.size ≤ 64 :=
  ⟨⟨h1, h2, by show (0 : Int) ≤ 0; omega, by show (0 : Int) ≤ c; omega⟩, inv_new c, bnd_new h1, fun k hk => absurd hk (by show ¬ 1 ≤ 0; decide)⟩
/-- A store on devices that tell nothing yet. -/
theorem wf_open {d : DevD} (hz : ∀ t, devSize d t ≤ 512) (hT : Tiny d) (he : ∀ l, tellD d l = ⟨#[]⟩) (hw : d.waits.length = 0) {pol : PolD} (hp : okPol pol = true) {used : List (Int × Int)} {t : Int} (hs : settleOk d used t = true) : WfS 0 (openS d pol used t) := by
  have hP : 0 ≤ pol.arc ∧ pol.arc ≤ 64 ∧ 0 ≤ pol.second ∧ pol.second ≤ 508 := by
    have hp2 := hp
    unfold okPol at hp2
    rw [Bool.and_eq_true, Bool.and_eq_true] at hp2
    have h1 := hp2.1.2
    have h2 := hp2.2
    unfold inB at h1 h2
    simp at h1 h2
    exact ⟨h1.1, h1.2, h2.1, h2.2⟩
  refine ⟨hz, hp, ?_, taken_len 0 used, taken_len 1 used, ?_, hT, Nat.le_of_eq hw, Nat.le_refl _, by show ((0 : Int) ≤ 0 ∧ (0 : Int) ≤ ((0 : Nat) : Int)) ∧ ((0 : Int) ≤ 0 ∧ (0 : Int) ≤ ((0 : Nat) : Int)) ∧ ((0 : Int) ≤ 0 ∧ (0 : Int) ≤ ((0 : Nat) : Int)); decide, ?_⟩
  · unfold settleOk at hs
    rw [Bool.and_eq_true, Bool.and_eq_true] at hs
    exact ⟨of_decide_eq_true hs.1, of_decide_eq_true hs.2.1⟩
  · intro y hy
    have hy : arcO pol.arc = some y := hy
    unfold arcO at hy
    split at hy
    · next h1 =>
      injection hy with hy
      rw [← hy]
      exact inv_newA h1 hP.2.1
    · cases hy
  · intro x hx
    have hx : secOf d pol = some x := hx
    unfold secOf at hx
    split at hx
    · cases hx
    · next hn =>
      injection hx with hx
      rw [rec_new he] at hx
      rw [← hx]
      have := hz 1
      have h2 : 2 ≤ pol.second.toNat := by omega
      refine ⟨?_, ?_, h2, room_pos h2, ?_, Nat.le_refl _, fun k y h => by cases h⟩
      · show devSize d 1 - pol.second.toNat ≤ 512; omega
      · show pol.second.toNat ≤ 512; omega
      · show devSize d 1 - pol.second.toNat + pol.second.toNat ≤ 512; omega
theorem wf_openN {m n : Nat} (hm : m ≤ 512) (hn : n ≤ 512) {pol : PolD} (hp : okPol pol = true) {used : List (Int × Int)} {t : Int} (hs : settleOk (newD m n) used t = true) : WfS 0 (openS (newD m n) pol used t) := by
  obtain ⟨z0, z1, z2⟩ := new_sizes m n
  refine wf_open (fun v => ?_) (Tiny.new m n) (new_tells m n) rfl hp hs
  by_cases h0 : v = 0
  · rw [h0, z0]; exact hm
  · by_cases h1 : v = 1
    · rw [h1, z1]; exact hn
    · rw [z2 v h0 h1]; omega
end Go.Proofs.YtphhnhldbajaoaaGreatDoor

namespace Go.Proofs.YtphhnhldbajaoaaGreatDoor
open Go Go.RowKit Go.ChangeShapes Go.WideShapes Go.ChangeAt

def lvP : PolD := ⟨true, true, 0, 1, 4⟩
def lvS0 : StD := openS (newD 10 20) lvP [(0, 4)] 7
def tN : ByteArray := ⟨#[110, 111, 100, 101]⟩
def tD : ByteArray := ⟨#[100, 97, 116, 97]⟩
def tJ : ByteArray := ⟨#[106, 117, 110, 107]⟩
def lvS1 : StD := (stoPut lvS0 0 tN).2
def lvR : ByteArray := (stoPut lvS0 0 tN).1.1
def lvS2 : StD := (stoPut lvS1 1 tD).2
def lvQ : ByteArray := (stoPut lvS1 1 tD).1.1
def lvS3 : StD := (getS lvS2 lvR).2
def lvS4 : StD := (getS lvS3 lvQ).2
def lvS5 : StD := (getS lvS4 lvR).2
section
set_option maxRecDepth 1000000
theorem lv_set : settleOk (newD 10 20) [(0, 4)] 7 = true := by decide +kernel
theorem lv_free : freS lvS0 0 = 5 ∧ freS lvS0 1 = 12 := by decide +kernel
theorem lv_put : (stoPut lvS0 0 tN).1.2 = 0 ∧ (stoPut lvS1 1 tD).1.2 = 0 := by decide +kernel
theorem lv_dec : (decP lvR).2 = 0 ∧ (decP lvR).1.locs = [(1, 4), (0, 5)] ∧ (decP lvR).1.birth = 7 := by decide +kernel
theorem lv_get1 : (getS lvS2 lvR).1 = (tN, 0) := by decide +kernel
theorem lv_get2 : (getS lvS3 lvQ).1 = (tD, 0) := by decide +kernel
theorem lv_get3 : (getS lvS4 lvR).1 = (tN, 0) := by decide +kernel
theorem lv_hits : lvS5.h0 = 0 ∧ lvS5.h1 = 1 ∧ lvS5.h2 = 2 := by decide +kernel
theorem lv_junk : (getS lvS5 tJ).1.2 = 3 := by decide +kernel
theorem lv_size : lvR.size ≤ 100 ∧ lvQ.size ≤ 100 := by decide +kernel
end
theorem wf0 : WfS 0 lvS0 := wf_openN (by decide) (by decide) (by decide) lv_set
theorem wf1 : WfS 2 lvS1 := wf_stoPut wf0 0 tN
theorem wf2 : WfS 4 lvS2 := wf_stoPut wf1 1 tD
theorem wf3 : WfS 7 lvS3 := wf_get wf2 lvR
theorem wf4 : WfS 10 lvS4 := wf_get wf3 lvQ
theorem wf5 : WfS 13 lvS5 := wf_get wf4 lvR
end Go.Proofs.YtphhnhldbajaoaaGreatDoor

namespace Go.Proofs.YtphhnhldbajaoaaGreatDoor
open Go.RowKit

/-- Block b is a reader of the reference's. -/
def RrAt (w : World) (b : Nat) (s : ByteArray) (e : Int) : Prop := w.heap[b]? = some (.cells #[.string s, .int .i64 e] 73 (0, 0))

theorem RrAt.cells {w : World} {b : Nat} {s : ByteArray} {e : Int} (h : RrAt w b s e) :
    w.cell? ⟨b, 0, none⟩ = some (.string s) ∧ w.cell? ⟨b, 1, none⟩ = some (.int .i64 e) ∧ w.frozen? ⟨b, 0, none⟩ = false ∧ w.frozen? ⟨b, 1, none⟩ = false := by
  unfold RrAt at h
  refine ⟨?_, ?_, ?_, ?_⟩ <;> simp [World.cell?, World.frozen?, h]
theorem RrAt.set0 {w : World} {b : Nat} {s : ByteArray} {e : Int} (h : RrAt w b s e) (s' : ByteArray) : RrAt (w.setCell ⟨b, 0, none⟩ (.string s')) b s' e := by
  have := heap_setCell_same w b 0 _ _ (.string s') h
  exact this
theorem RrAt.set1 {w : World} {b : Nat} {s : ByteArray} {e : Int} (h : RrAt w b s e) (e' : Int) : RrAt (w.setCell ⟨b, 1, none⟩ (.int .i64 e')) b s e' := by
  have := heap_setCell_same w b 1 _ _ (.int .i64 e') h
  exact this

/-- .. at place k of s; behind an error its rest is of no moment. -/
def RrPos (w : World) (b : Nat) (s : ByteArray) (k : Nat) : Prop := ∃ r, RrAt w b r (posE s k) ∧ (k ≤ s.size → r = s.extract k s.size)

theorem rbytes_pos (b : Nat) (s : ByteArray) (k n : Nat) (w : World) (h : RrPos w b s k) :
    Calls Tryz.prog 34 #[.pointer (some ⟨b, 0, none⟩), .int .i64 n] w fun e w' => e = .returned (.string (valB s k n)) ∧ RrPos w' b s (k + n) ∧ Only b w w' := by
  obtain ⟨r, hr, hs⟩ := h
  by_cases hk : k ≤ s.size
  · obtain rfl := hs hk
    rw [show posE s k = 0 from if_pos hk] at hr
    obtain ⟨h0, h1, f0, f1⟩ := hr.cells
    have H := Lib.hid hr
    clear hr hs
    have hz : (s.extract k s.size).size = s.size - k := by rw [ByteArray.size_extract]; omega
    by_cases hn : k + n ≤ s.size
    · have e1 : valB s k n = (s.extract k s.size).extract 0 n := by unfold valB; rw [if_pos hn, extract_extract' s k n hn]
      have E2 := Lib.hid (extract_drop' s k n hn)
      have HP : Hid (posE s (k + n) = 0) := if_pos hn
      rw [e1]
      clear e1
      have E3 := Lib.hid hz
      have hnz : n ≤ (s.extract k s.size).size := by omega
      generalize s.extract k s.size = t at *
      clear hz
      go_enter Tryz.func34, Tryz.ntmps34
      go_wp2
      go_ret
      refine ⟨rfl, ⟨_, ?_, fun _ => rfl⟩, Only.set b 0 w _⟩
      rw [HP.out, ← E2.out, ← E3.out]
      exact H.out.set0 _
    · have e1 : valB s k n = ⟨#[]⟩ := if_neg hn
      have HP : Hid (posE s (k + n) = 2) := if_neg hn
      have HQ : Hid (¬ k + n ≤ s.size) := hn
      rw [e1]
      clear e1
      have hnz : (s.extract k s.size).size < n := by omega
      generalize s.extract k s.size = t at *
      clear hz
      go_enter Tryz.func34, Tryz.ntmps34
      go_wp2
      go_ret
      exact ⟨rfl, ⟨t, by rw [HP.out]; exact H.out.set1 _, fun h => absurd h HQ.out⟩, Only.set b 1 w _⟩
  · have hn : ¬ k + n ≤ s.size := by omega
    rw [show posE s k = 2 from if_neg hk] at hr
    obtain ⟨h0, h1, f0, f1⟩ := hr.cells
    have H := Lib.hid hr
    have e1 : valB s k n = ⟨#[]⟩ := if_neg hn
    have HP : Hid (posE s (k + n) = 2) := if_neg hn
    have HQ : Hid (¬ k + n ≤ s.size) := hn
    rw [e1]
    clear e1 hs hr hk hn
    go_enter Tryz.func34, Tryz.ntmps34
    go_wp2
    go_ret
    exact ⟨rfl, ⟨r, by rw [HP.out]; exact H.out, fun h => absurd h HQ.out⟩, Only.refl _ _⟩

theorem leVal_drop (s : ByteArray) (k : Nat) (h : k < s.size) : leVal (s.data.toList.drop k) = s[k].toNat + 256 * leVal (s.data.toList.drop (k + 1)) := by
  rw [List.drop_eq_getElem_cons (by simpa using h)]
  rfl
theorem leVal_drop_lt (s : ByteArray) (k : Nat) (h : s.size ≤ 7) : leVal (s.data.toList.drop k) < 72057594037927936 := by
  have h1 := leVal_lt (s.data.toList.drop k)
  have h2 : 256 ^ (s.data.toList.drop k).length ≤ 256 ^ 7 := Nat.pow_le_pow_right (by decide) (by rw [List.length_drop]; simp; omega)
  have h3 : 256 ^ 7 = 72057594037927936 := by decide
  omega

theorem rnumber_pos (b : Nat) (s : ByteArray) (k n : Nat) (h1 : 1 ≤ n) (h7 : n ≤ 7) (w : World) (h : RrPos w b s k) :
    Calls Tryz.prog 33 #[.pointer (some ⟨b, 0, none⟩), .int .i64 n] w fun e w' => e = .returned (.int .i64 (valN s k n)) ∧ RrPos w' b s (k + n) ∧ Only b w w' := by
  have H := Lib.hid h
  obtain ⟨r, hr, hs⟩ := h
  obtain ⟨c0, c1, f0, f1⟩ := hr.cells
  clear hr hs
  by_cases hk : k ≤ s.size
  · have hm : 0 ≤ mostI n := by unfold mostI; rw [if_pos (by omega)]; have := p256' n (by omega); rw [Int.toNat_natCast]; omega
    rw [show posE s k = 0 from if_pos hk] at c1
    have hsz : (valB s k n).size ≤ 7 := by
      unfold valB; split
      · rw [ByteArray.size_extract]; omega
      · exact Nat.zero_le _
    have HV : Hid (valN s k n = leVal (valB s k n).data.toList) := rfl
    rw [HV.out]
    obtain ⟨t, ht⟩ : ∃ t, t = valB s k n := ⟨_, rfl⟩
    rw [← ht] at hsz ⊢
    have HT := Lib.hid ht
    clear ht
    go_enter Tryz.func33, Tryz.ntmps33
    go_wp2_with fail
    refine (rmost_any n _).mono ?_
    rintro e w' ⟨rfl, rfl⟩
    go_wp2_with fail
    refine (rbytes_pos b s k n _ H.out).mono ?_
    rintro e w' ⟨rfl, hr, hb⟩
    have Hr := Lib.hid hr
    have Hb := Lib.hid hb
    clear hr hb c0 c1 f0 f1
    rw [← HT.out]
    go_wp2
    go_loop [6, 7] (fun v i => ∃ j : Nat, j ≤ t.size ∧ i = .int .i64 ((j : Int) - 1) ∧ v = .int .i64 (leVal (t.data.toList.drop j))) (fun _ i => (RowKit.intOf i + 1).toNat)
    case atStart => exact ⟨t.size, Nat.le_refl _, rfl, by rw [List.drop_of_length_le (by simp)]; rfl⟩
    case round =>
      obtain ⟨j, hj, rfl, rfl⟩ := hrel
      cases j with
      | zero =>
        go_wp2
        go_ret
        exact ⟨ret_int (by first | rfl | rw [List.drop_zero]), Hr.out, Hb.out⟩
      | succ j =>
        have e1 : ((j + 1 : Nat) : Int) - 1 = j := by omega
        rw [e1]
        clear e1
        have hlt : j < t.size := by omega
        have hb : (t[j].toNat : Int) ≤ 255 := by have := t[j].toNat_lt; omega
        have hd := leVal_drop_lt t (j + 1) hsz
        have hs := Lib.hid (leVal_drop t j hlt)
        have hd2 := leVal_drop_lt t j hsz
        rw [hs.out] at hd2
        go_wp2
        go_round
        case rel => exact ⟨j, by omega, by go_num, by rw [hs.out]; go_num⟩
        case measure => simp [RowKit.intOf]
  · rw [show posE s k = 2 from if_neg hk] at c1
    have hn : ¬ k + n ≤ s.size := by omega
    have e1 : valN s k n = 0 := by unfold valN valB; rw [if_neg hn]; rfl
    have HP : Hid (posE s (k + n) = posE s k) := by show _ = _; unfold posE; rw [if_neg hn, if_neg hk]
    have HQ : Hid (¬ k + n ≤ s.size) := hn
    rw [e1]
    clear e1 hk hn
    go_enter Tryz.func33, Tryz.ntmps33
    go_wp2
    go_ret
    refine ⟨rfl, ?_, Only.refl _ _⟩
    obtain ⟨r, hr, _⟩ := H.out
    exact ⟨r, by rw [HP.out]; exact hr, fun h => absurd h HQ.out⟩

end Go.Proofs.YtphhnhldbajaoaaGreatDoor

namespace Go.Proofs.YtphhnhldbajaoaaGreatDoor
open Go.RowKit

theorem rend_pos (b : Nat) (s : ByteArray) (k : Nat) (w : World) (h : RrPos w b s k) :
    Calls Tryz.prog 35 #[.pointer (some ⟨b, 0, none⟩)] w fun e w' => e = .returned (.int .i64 (posEnd s k)) ∧ w = w' := by
  obtain ⟨r, hr, hs⟩ := h
  obtain ⟨c0, c1, f0, f1⟩ := hr.cells
  clear hr
  by_cases hk : k ≤ s.size
  · obtain rfl := hs hk
    rw [show posE s k = 0 from if_pos hk] at c1
    have hz : (s.extract k s.size).size = s.size - k := by rw [ByteArray.size_extract]; omega
    clear hs
    by_cases hk2 : k < s.size
    · rw [show posEnd s k = 3 from if_pos hk2]
      have hp : 0 < (s.extract k s.size).size := by omega
      generalize s.extract k s.size = t at *
      obtain ⟨g1, g2⟩ := str_some t hp
      clear hz
      go_enter Tryz.func35, Tryz.ntmps35
      go_wp2
      go_ret
      exact ⟨rfl, rfl⟩
    · rw [show posEnd s k = 0 from by unfold posEnd; rw [if_neg hk2, if_pos (by omega)]]
      have hp : s.extract k s.size = ⟨#[]⟩ := by apply ByteArray.ext; apply Array.eq_empty_of_size_eq_zero; show (s.extract k s.size).size = 0; omega
      rw [hp] at c0
      clear hz hp
      go_enter Tryz.func35, Tryz.ntmps35
      go_wp2
      go_ret
      exact ⟨rfl, rfl⟩
  · rw [show posE s k = 2 from if_neg hk] at c1
    rw [show posEnd s k = 2 from by unfold posEnd; rw [if_neg (by omega), if_neg (by omega)]]
    clear hs
    go_enter Tryz.func35, Tryz.ntmps35
    go_wp2
    go_ret
    exact ⟨rfl, rfl⟩
end Go.Proofs.YtphhnhldbajaoaaGreatDoor

namespace Go.Proofs.YtphhnhldbajaoaaGreatDoor
open Go.RowKit

end Go.Proofs.YtphhnhldbajaoaaGreatDoor

namespace Go.Proofs.YtphhnhldbajaoaaGreatDoor
open Go.RowKit

end Go.Proofs.YtphhnhldbajaoaaGreatDoor

namespace Go.Proofs.YtphhnhldbajaoaaGreatDoor
open Go.RowKit

theorem nowhere_iff (x : Int × Int) : nowhereP x ↔ x.1 < 0 ∨ 1 < x.1 ∨ x.2 < 0 ∨ 511 < x.2 := by
  unfold nowhereP
  omega

set_option maxHeartbeats 2000000 in
theorem rcheckP_any (a : Option Addr) (cap : Nat) (p : PtrD) (w : World) (h : SlP w a p.locs) (hl : p.locs.length ≤ 1000) :
    Calls Tryz.prog 36 #[ptrV a cap p] w fun e w' => e = .returned (.int .i64 (chkP p)) ∧ Below w.heap.size w w' := by
  have H := Lib.hid h
  clear h
  obtain ⟨l, n, m, s⟩ := p
  simp only at H hl
  unfold ptrV
  simp only
  by_cases hr : l.length < 1 ∨ (1 ≤ l.length ∧ 2 < l.length) ∨ (1 ≤ l.length ∧ l.length ≤ 2 ∧ n < 0) ∨ (1 ≤ l.length ∧ l.length ≤ 2 ∧ 0 ≤ n ∧ 960 < n) ∨ (1 ≤ l.length ∧ l.length ≤ 2 ∧ 0 ≤ n ∧ n ≤ 960 ∧ m < 0) ∨
      (1 ≤ l.length ∧ l.length ≤ 2 ∧ 0 ≤ n ∧ n ≤ 960 ∧ 0 ≤ m ∧ 1099511627776 < m) ∨ (1 ≤ l.length ∧ l.length ≤ 2 ∧ 0 ≤ n ∧ n ≤ 960 ∧ 0 ≤ m ∧ m ≤ 1099511627776 ∧ s.size ≠ 32)
  · have ec : chkP ⟨l, n, m, s⟩ = 1 := by
      refine if_pos ?_
      show ¬ (1 ≤ l.length ∧ l.length ≤ 2) ∨ _ ∨ _ ∨ (¬ (0 ≤ n ∧ n ≤ 960) ∨ ¬ (0 ≤ m ∧ m ≤ 1099511627776) ∨ s.size ≠ 32)
      rcases hr with h | h | h | h | h | h | h
      · exact Or.inl (by omega)
      · exact Or.inl (by omega)
      all_goals exact Or.inr (Or.inr (Or.inr (by omega)))
    rw [ec]
    clear ec
    have hq : s.size ≠ 32 → ((s.size : Int) != 32) = true := fun h => by simp; omega
    rcases hr with h | ⟨h1, h2⟩ | ⟨h1, h2, h3⟩ | ⟨h1, h2, h3, h4⟩ | ⟨h1, h2, h3, h4, h5⟩ | ⟨h1, h2, h3, h4, h5, h6⟩ | ⟨h1, h2, h3, h4, h5, h6, h7⟩
    case inr.inr.inr.inr.inr.inr =>
      have hq := hq h7
      clear h7
      go_enter Tryz.func36, Tryz.ntmps36
      go_wp2
      go_ret
      exact ⟨rfl, (Below.refl _ _).alloc (Nat.le_refl _) _⟩
    all_goals
      clear hq
      go_enter Tryz.func36, Tryz.ntmps36
      go_wp2
      go_ret
      exact ⟨rfl, (Below.refl _ _).alloc (Nat.le_refl _) _⟩
  · obtain ⟨h1, h2, h3, h4, h5, h6, h7⟩ : 1 ≤ l.length ∧ l.length ≤ 2 ∧ 0 ≤ n ∧ n ≤ 960 ∧ 0 ≤ m ∧ m ≤ 1099511627776 ∧ s.size = 32 := by omega
    clear hr
    have HR : Hid (¬ restBad ⟨l, n, m, s⟩) := by
      show ¬ (¬ (0 ≤ n ∧ n ≤ 960) ∨ ¬ (0 ≤ m ∧ m ≤ 1099511627776) ∨ s.size ≠ 32)
      omega
    have H12 : Hid (1 ≤ l.length ∧ l.length ≤ 2) := ⟨h1, h2⟩
    have HV : Hid (∀ j v, (#[.slice a l.length cap, .int .i64 n, .int .i64 m, .string s] : Array Value)[j]? = some v → (w.alloc (.cells #[.slice a l.length cap, .int .i64 n, .int .i64 m, .string s] 37 (0, 0))).cell? ⟨w.heap.size, j, none⟩ = some v) := fun j v hj => boxed0 _ _ _ _ j v hj
    have HX : Hid (Below w.heap.size w (w.alloc (.cells #[.slice a l.length cap, .int .i64 n, .int .i64 m, .string s] 37 (0, 0)))) := (Below.refl _ _).alloc (Nat.le_refl _) _
    have HZ : Hid (w.heap.size < (w.alloc (.cells #[.slice a l.length cap, .int .i64 n, .int .i64 m, .string s] 37 (0, 0))).heap.size) := by show _ < _; rw [size_alloc]; omega
    have hq7 : ((s.size : Int) != 32) = false := by simp [h7]
    clear h7
    go_enter Tryz.func36, Tryz.ntmps36
    go_wp2
    clear h3 h4 h5 h6 hq7
    go_loopw [3, 4] (fun i _ wr => ∃ k : Nat, k ≤ l.length ∧ i = .int .i64 k ∧ Hid (∀ x ∈ l.take k, ¬ nowhereP x) ∧ Hid (k = 2 → ¬ twins l) ∧ Hid (Below w.heap.size w wr) ∧ Hid (w.heap.size < wr.heap.size) ∧ Hid (∀ j v, (#[.slice a l.length cap, .int .i64 n, .int .i64 m, .string s] : Array Value)[j]? = some v → wr.cell? ⟨w.heap.size, j, none⟩ = some v)) (fun i _ _ => l.length - (intOf i).toNat)
    case atStart => exact ⟨0, Nat.zero_le _, rfl, Lib.hid (fun x hx => by simp at hx), Lib.hid (fun h => by cases h), HX, HZ, HV⟩
    case round =>
      clear HX HZ HV
      obtain ⟨k, hk, rfl, HN, HT, HL, HZ, HV⟩ := hrel
      have g0 : wr.cell? ⟨w.heap.size, 0, none⟩ = some (.slice a l.length cap) := HV.out 0 _ rfl
      by_cases hlt : k < l.length
      · obtain ⟨b, off, rfl, hb, hc0, hc1⟩ := (H.out.keep HL.out).get k hlt
        have TT := Lib.hid (List.take_succ_eq_append_getElem hlt)
        have HM := Lib.hid (List.getElem_mem hlt)
        have HK := Lib.hid (List.getElem?_eq_getElem hlt)
        generalize l[k] = x at *
        obtain ⟨x1, x2⟩ := x
        simp only at hc0 hc1
        go_wp2_with fail
        generalize hwx : wr.alloc _ = wx
        have hk0 : wx.cell? ⟨wr.heap.size, 0, none⟩ = some (.int .i64 x1) := by rw [← hwx]; exact boxed0 wr _ _ _ 0 _ rfl
        have hk1 : wx.cell? ⟨wr.heap.size, 1, none⟩ = some (.int .i64 x2) := by rw [← hwx]; exact boxed0 wr _ _ _ 1 _ rfl
        have HX : Hid (Below wr.heap.size wr wx) := by show Below _ _ _; rw [← hwx]; exact (Below.refl _ _).alloc (Nat.le_refl _) _
        have HV2 : Hid (∀ j v, (#[.slice (some ⟨b, off, none⟩) l.length cap, .int .i64 n, .int .i64 m, .string s] : Array Value)[j]? = some v → wx.cell? ⟨w.heap.size, j, none⟩ = some v) := fun j v hj => by
          rw [HX.out.cell HZ.out]; exact HV.out j v hj
        have hg0 : wx.cell? ⟨w.heap.size, 0, none⟩ = some (.slice (some ⟨b, off, none⟩) l.length cap) := HV2.out 0 _ rfl
        have HL2 : Hid (Below w.heap.size w wx.drew) := (HL.out.trans (HX.out.mono HL.out.size)).drew
        have HZ2 : Hid (w.heap.size < wx.drew.heap.size) := Nat.lt_of_lt_of_le HZ.out HX.out.size
        clear hwx g0 hb hc0 hc1
        by_cases hx : nowhereP (x1, x2)
        · have HW := Lib.hid hx
          have hkk := (nowhere_iff _).1 hx
          simp only at hkk
          clear hx
          have hcc : x1 < 0 ∨ (0 ≤ x1 ∧ 1 < x1) ∨ (0 ≤ x1 ∧ x1 ≤ 1 ∧ x2 < 0) ∨ (0 ≤ x1 ∧ x1 ≤ 1 ∧ 0 ≤ x2 ∧ 511 < x2) := by omega
          clear hkk
          have hdd : decide (x1 < 0) = true ∨ (decide (x1 < 0) = false ∧ decide (1 < x1) = true) ∨ (decide (x1 < 0) = false ∧ decide (1 < x1) = false ∧ decide (x2 < 0) = true) ∨ (decide (x1 < 0) = false ∧ decide (1 < x1) = false ∧ decide (x2 < 0) = false ∧ decide (511 < x2) = true) := by
            simp only [decide_eq_true_eq, decide_eq_false_iff_not]; omega
          clear hcc
          rcases hdd with h | ⟨h, h'⟩ | ⟨h, h', h2'⟩ | ⟨h, h', h2', h3⟩
          all_goals
            go_region
            go_wp2
            go_ret
            exact ⟨ret_int (Eq.symm (if_pos (Or.inr (Or.inl ⟨_, HM.out, HW.out⟩)))), HL2.out⟩
        · have HW := Lib.hid hx
          have hkk : 0 ≤ x1 ∧ x1 ≤ 1 ∧ 0 ≤ x2 ∧ x2 ≤ 511 := by have := mt (nowhere_iff (x1, x2)).2 hx; simp only at this; omega
          obtain ⟨q1, q2, q3, q4⟩ : decide (x1 < 0) = false ∧ decide (1 < x1) = false ∧ decide (x2 < 0) = false ∧ decide (511 < x2) = false := by
            simp only [decide_eq_false_iff_not]; omega
          clear hkk
          have HN2 : Hid (∀ x ∈ l.take (k + 1), ¬ nowhereP x) := by
            show ∀ y ∈ _, _
            rw [TT.out]; intro y hy
            rcases List.mem_append.1 hy with hy | hy
            · exact HN.out y hy
            · rw [List.mem_singleton.1 hy]; exact HW.out
          clear hx
          by_cases hk1' : k = 1
          · subst hk1'
            obtain ⟨y, hy⟩ : ∃ y, l = [y, (x1, x2)] := by
              have h3 := HK.out
              match l, h1, h2, h3 with
              | [z], _, _, h3 => simp at h3
              | [z, z'], _, _, h3 => simp at h3; exact ⟨z, by rw [h3]⟩
            obtain ⟨y1, y2⟩ := y
            have HY := Lib.hid hy
            have hk2 : wx.cell? ⟨b, off, none⟩ = some (.int .i64 y1) := by
              obtain ⟨b', off', e, hlb, hc⟩ := (H.out.keep (HL.out.trans (HX.out.mono HL.out.size))) (by rw [hy]; simp)
              simp only [Option.some.injEq, Addr.mk.injEq, and_true] at e
              obtain ⟨rfl, rfl⟩ := e
              have := (hc 0 (y1, y2) (by rw [hy]; rfl)).1
              simpa using this
            clear hy
            by_cases ht : x1 = y1
            · have HTT : Hid (twins l) := by show _ ∧ _; rw [HY.out]; exact ⟨rfl, ht.symm⟩
              subst ht
              go_region
              go_wp2
              go_ret
              exact ⟨ret_int (Eq.symm (if_pos (Or.inr (Or.inr (Or.inl HTT.out))))), HL2.out⟩
            · have HTT : Hid (¬ twins l) := by show ¬ (_ ∧ _); rw [HY.out]; rintro ⟨_, h⟩; exact ht h.symm
              have hq : (x1 == y1) = false := by simpa using ht
              clear ht
              go_region
              clear hk0 hk1 hk2 hg0 q1 q2 q3 q4 hq
              go_wp2
              go_roundw
              case rel => exact ⟨2, by omega, rfl, HN2, Lib.hid (fun _ => HTT.out), HL2, HZ2, HV2⟩
              case measure => simp [intOf]; omega
          · have hq : ((k : Int) == 1) = false := by simp; omega
            have hk0' : k = 0 := by omega
            go_region
            clear hk0 hk1 hg0 q1 q2 q3 q4 hq
            go_wp2
            go_roundw
            case rel => exact ⟨k + 1, by omega, by go_num, HN2, Lib.hid (fun h => by omega), HL2, HZ2, HV2⟩
            case measure => simp [intOf]; omega
      · have hkl : k = l.length := by omega
        subst hkl
        rw [List.take_length] at HN
        have hfin : ¬ badP ⟨l, n, m, s⟩ := by
          show ¬ (_ ∨ _ ∨ _ ∨ _)
          rintro (h | ⟨x, hx, hn⟩ | h | h)
          · exact h H12.out
          · exact HN.out x hx hn
          · exact HT.out h.1 h
          · exact HR.out h
        have HF := Lib.hid hfin
        clear hfin h1 h2
        go_wp2
        go_ret
        exact ⟨ret_int (Eq.symm (if_neg HF.out)), HL.out⟩
end Go.Proofs.YtphhnhldbajaoaaGreatDoor
