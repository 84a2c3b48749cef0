/-
  The walk of SumLong.
-/
import Derived.Test.YtfnihldcnjnpbaaDoorSumLive
import Derived.Test.YtfnihldcnjnpbaaDoorFrame
import Derived.Test.YtfnihldcnjnpbaaDoorOf
namespace Go.Proofs.YtfnihldcnjnpbaaDoor.sumLong
open Go.RowKit

/-- The row behind k rounds. -/
def fillB (c : UInt8) (n k : Nat) : List UInt8 := List.replicate k c ++ List.replicate (n - k) 0

theorem fillB_length (c : UInt8) (n k : Nat) (h : k ≤ n) : (fillB c n k).length = n := by simp [fillB]; omega

theorem fillB_set (c : UInt8) (n k : Nat) (h : k < n) : (fillB c n k).set k c = fillB c n (k + 1) := by
  unfold fillB
  rw [List.replicate_succ', List.set_append, List.length_replicate, if_neg (by omega), Nat.sub_self, show n - k = (n - (k + 1)) + 1 by omega, List.replicate_succ, List.set_cons_zero]
  simp

theorem fill_made (c : UInt8) (n : Nat) {w1 : World} {g : Nat} (h : w1.ownsRow g 5 1 (.slice (some ⟨g, 0, none⟩) n n) n (madeCells #[Value.int .u8 0] n).toList) : Buf w1 g (.slice (some ⟨g, 0, none⟩) n n) (fillB c n 0) := by
  have e : (madeCells #[Value.int .u8 0] n).toList = (fillB c n 0).map byV := by
    apply List.ext_getElem
    · simp [fillB, madeCells]
    · intro i h1 h2
      simp [fillB, madeCells, byV, Nat.mod_one]
  unfold Buf
  rw [fillB_length c n 0 (Nat.zero_le _), ← e]
  exact h

theorem fill_cell {w : World} {g n k : Nat} {c : UInt8} (h : Buf w g (.slice (some ⟨g, 0, none⟩) n n) (fillB c n k)) (hk : k < n) : w.cell? ⟨g, k, none⟩ = some (.int .u8 0) := by
  have hl := fillB_length c n k (Nat.le_of_lt hk)
  have h' := h
  unfold Buf at h'
  rw [hl] at h'
  rw [World.ownsRow.cellAt h' k (by omega), List.getElem?_map]
  have : 0 < n - k := by omega
  simp [fillB, byV, this]

theorem fill_free {w : World} {g n k : Nat} {c : UInt8} (h : Buf w g (.slice (some ⟨g, 0, none⟩) n n) (fillB c n k)) (hle : k ≤ n) : w.frozen? ⟨g, k, none⟩ = false := by
  have hl := fillB_length c n k hle
  have h' := h
  unfold Buf at h'
  rw [hl] at h'
  exact World.ownsRow.frozenAt h' k

theorem fill_set {w : World} {g n k : Nat} {c : UInt8} (h : Buf w g (.slice (some ⟨g, 0, none⟩) n n) (fillB c n k)) (hk : k < n) {u : Value} (hu : u = byV c) : Buf (w.setCell ⟨g, k, none⟩ u) g (.slice (some ⟨g, 0, none⟩) n n) (fillB c n (k + 1)) := by
  have hl := fillB_length c n k (by omega)
  have hl' := fillB_length c n (k + 1) (by omega)
  have h' := h
  unfold Buf at h' ⊢
  rw [hl] at h'
  rw [hl', ← fillB_set c n k hk, List.map_set, ← hu]
  exact (World.ownsRow.stored h' k u).1

theorem belowOne (b i : Nat) (w : World) (v : Value) : Below b w (w.setCell ⟨b, i, none⟩ v) := (Below.refl b w).setCell (p := ⟨b, i, none⟩) (Nat.le_refl b) v

theorem fill_keep {w w' : World} {base : Nat} {v : Value} {l : List UInt8} (h : Buf w base v l) (hb : Below w.heap.size w w') : Buf w' base v l := by
  refine ⟨h.1, ?_⟩
  rcases h.2 with h2 | ⟨g, cap, cur, rfl, hg, hh, hr⟩
  · exact .inl h2
  · exact .inr ⟨g, cap, cur, rfl, hg, (hb.block g (lt_of_block hh)).trans hh, hr⟩

theorem digest_length (s : St) : (digest s).length = 32 := digK_length s 8 (Nat.le_refl _)
theorem sha_size (s : ByteArray) : (sha s).size = 32 := by
  show ((digest _).toArray).size = 32
  rw [List.size_toArray, digest_length]

theorem byte_of (a : Int) (h : (Lit.int .u8 a).wf = true) : Value.int .u8 a = byV (UInt8.ofNat a.toNat) := by
  have h' : 0 ≤ a ∧ a < 256 := by
    simp [Lit.wf] at h
    have e1 : IntKind.u8.min = 0 := rfl
    have e2 : IntKind.u8.max = 255 := rfl
    omega
  unfold byV
  congr 1
  simp
  omega

set_option maxRecDepth 100000 in
set_option maxHeartbeats 1000000 in
theorem walk (w : World) (hK : Kt w) (a0 : Int) (w0 : (Lit.int .u8 a0).wf = true) (a1 : Int) (_w1 : (Lit.int .i64 a1).wf = true) :
    Calls Tryd.prog 4 #[.int .u8 a0, .int .i64 a1] w fun e w' => e = .returned (.bool true) ∧ Below w.heap.size w w' := by
  have HK := Lib.hid hK
  have HP := Lib.hid hK.pos
  have HBY := Lib.hid (byte_of a0 w0)
  clear hK w0
  by_cases h0 : a1 < 1
  · go_enter Tryd.func4, Tryd.ntmps4
    go_wp2_with fail
    refine (live_any _ HK.out).mono ?_
    rintro e wl ⟨rfl, hb⟩
    have Hl := Lib.hid hb
    clear hb
    go_wp2
    go_ret
    exact ⟨rfl, Hl.out⟩
  · by_cases h1 : 200 < a1
    · go_enter Tryd.func4, Tryd.ntmps4
      go_wp2_with fail
      refine (live_any _ HK.out).mono ?_
      rintro e wl ⟨rfl, hb⟩
      have Hl := Lib.hid hb
      clear hb
      go_wp2
      go_ret
      exact ⟨rfl, Hl.out⟩
    · obtain ⟨n, ha⟩ : ∃ n : Nat, a1 = n := ⟨a1.toNat, by omega⟩
      have HA := Lib.hid ha
      have hn : n ≤ 200 := by omega
      clear ha
      obtain ⟨i0, hi, hz0, hz1, hz2⟩ := info_parts infoU8
      go_enter Tryd.func4, Tryd.ntmps4
      go_wp2_with (at_make; refine wpList_make_full _ rfl _ _ 25 rfl w.heap.size 5 i0 (.int .u8 0) 1 Tryd.underlying25 hi hz0 hz1 .i64 .i64 a1 a1 n rfl rfl HA.out HA.out (by rw [hz2]; omega) (by unfold maxLen; omega) (Nat.le_refl _) ?_)
      intro w1 hown hg
      have hbuf := fill_made (UInt8.ofNat a0.toNat) n hown
      have hbel : Below w.heap.size w w1 := (Below.refl _ _).grown hg (Nat.le_refl _) (fun k hk => by cases hk)
      have HB := Lib.hid hbuf
      have HL := Lib.hid hbel
      clear hown hg hbuf hbel hi hz0 hz1 hz2 h0 h1
      obtain rfl : a1 = (n : Int) := HA.out
      clear HA
      obtain ⟨c, hc⟩ : ∃ c, c = UInt8.ofNat a0.toNat := ⟨_, rfl⟩
      rw [← hc] at HB HBY
      clear hc
      go_wp2
      go_loopw [6] (fun i wr => ∃ k : Nat, k ≤ n ∧ i = .int .i64 k ∧ Hid (Buf wr w.heap.size (.slice (some ⟨w.heap.size, 0, none⟩) n n) (fillB c n k)) ∧ Hid (Below w.heap.size w wr)) (fun i _ => n - (intOf i).toNat)
      case atStart => exact ⟨0, Nat.zero_le _, rfl, HB, HL⟩
      case round =>
        obtain ⟨k, hk, rfl, HBr, HLr⟩ := hrel
        by_cases hlt : k < n
        · have hc := fill_cell HBr.out hlt
          have hf := fill_free HBr.out hk
          go_wp2
          go_roundw
          case rel => exact ⟨k + 1, by omega, by go_num, fill_set HBr.out hlt HBY.out, HLr.out.trans (belowOne w.heap.size k wr _)⟩
          case measure => simp [intOf]; omega
        · have hkk : k = n := by omega
          subst hkk
          clear hlt
          have hsz : (⟨(fillB c k k).toArray⟩ : ByteArray).size = k := by
            show (fillB c k k).toArray.size = k
            rw [List.size_toArray, fillB_length c k k (Nat.le_refl _)]
          have HBt := Lib.hid HBr.out.text
          obtain ⟨T, hT⟩ : ∃ T, (⟨(fillB c k k).toArray⟩ : ByteArray) = T := ⟨_, rfl⟩
          rw [hT] at HBt hsz
          have HTT := Lib.hid hT
          clear hT
          have hct := HBt.out
          go_wp2_with fail
          refine (of_any T _ (by omega) (HK.out.below HLr.out HP.out)).mono ?_
          rintro e w2 ⟨rfl, hb⟩
          have HS2 := Lib.hid (fill_keep HBr.out hb).text
          rw [HTT.out] at HS2
          have hct2 := HS2.out
          have HL2 := Lib.hid (HLr.out.trans (hb.mono HLr.out.size))
          clear hb hct
          have hz := sha_size T
          have HR2 := Lib.hid (fun W => rof_any T W (by omega))
          obtain ⟨d, hd⟩ : ∃ d, d = sha T := ⟨_, rfl⟩
          rw [← hd] at hz
          rw [← hd] at HR2
          rw [← hd]
          clear hd
          have H32 : Hid (decide ((d.size : Int) = 32) = true) := by exact Lib.hid (by simp [hz])
          have h32 := H32.out
          have hz' : (d.size : Int) = 32 := by omega
          have HZ := Lib.hid hz
          clear hz
          go_wp2_with fail
          refine (HR2.out _).mono ?_
          rintro e w3 ⟨rfl, hb⟩
          have HL3 := Lib.hid (HL2.out.trans (hb.mono HL2.out.size))
          clear hb hct2
          go_wp2_with fail
          refine (live_any _ (HK.out.below HL3.out HP.out)).mono ?_
          rintro e wl ⟨rfl, hb⟩
          have Hl := Lib.hid (HL3.out.trans (hb.mono HL3.out.size))
          clear hb
          go_wp2
          go_ret
          exact ⟨rfl, Hl.out⟩
end Go.Proofs.YtfnihldcnjnpbaaDoor.sumLong
