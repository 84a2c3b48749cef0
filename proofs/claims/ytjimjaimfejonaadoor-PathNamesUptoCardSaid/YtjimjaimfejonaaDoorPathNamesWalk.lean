/-
  The walk of PathNames.
-/
import Derived.Test.YtjimjaimfejonaaDoorPathLive
import Derived.Test.YtjimjaimfejonaaDoorFrame
import Derived.Test.YtjimjaimfejonaaDoorPathV
namespace Go.Proofs.YtjimjaimfejonaaDoor.pathNames
open Go Go.RowKit

set_option maxRecDepth 100000 in
set_option maxHeartbeats 2000000 in
theorem walk (w : World) (x0 : Option Addr) (c0 : Nat) (l0 : List ByteArray) (s0 : Sl w Value.string x0 l0) (w0 : l0.length ≤ c0 ∧ ∀ s ∈ l0, s.size ≤ 1048576) (_ : l0.length ≤ maxLen) : Calls Tryd.prog 8 #[.slice x0 l0.length c0] w fun e w' => e = .returned (.bool true) ∧ Below w.heap.size w w' := by
  have HC := Lib.hid w0.1
  have HS := Lib.hid s0
  have HMX : Hid (∀ x ∈ l0, x.size ≤ 1048576) := w0.2
  clear s0 w0
  by_cases h1 : l0.length ≤ 30
  · have d1 : ((30 : Int) < (l0.length : Int)) = False := eq_false (by omega)
    have H1 := Lib.hid h1
    clear h1
    go_enter Tryd.func8, Tryd.ntmps8
    go_wp2
    go_loopw [3, 4, 5] (fun i _ _ wr => ∃ k : Nat, k ≤ l0.length ∧ i = .int .i64 k ∧ Hid (∀ x ∈ l0.take k, x.size ≤ 300 ∧ nameD x) ∧ Hid (Below w.heap.size w wr)) (fun i _ _ _ => l0.length - (intOf i).toNat)
    case atStart => exact ⟨0, Nat.zero_le _, rfl, Lib.hid (fun x hx => by cases hx), Below.refl _ _⟩
    case round =>
      obtain ⟨k, hk, rfl, HT, HL⟩ := hrel
      by_cases hlt : k < l0.length
      · have HSk := Lib.hid (HS.out.keepB HL.out)
        obtain ⟨b, off, rfl, hb, hcell⟩ := HSk.out (by intro e; rw [e] at hlt; cases hlt)
        have q1 : wr.cell? ⟨b, off + k, none⟩ = some (.string l0[k]) := hcell k _ (List.getElem?_eq_getElem hlt)
        have HN : Hid (l0[k].size ≤ 300 ∧ nameD l0[k] → ∀ x ∈ l0.take (k + 1), x.size ≤ 300 ∧ nameD x) := fun e => take_all hlt HT.out e
        have hsz : l0[k].size ≤ 1048576 := HMX.out _ (List.getElem_mem hlt)
        have HK30 := Lib.hid (Nat.le_trans hk H1.out)
        clear hcell
        generalize l0[k] = x at *
        have hz1 : ((⟨#[47]⟩ : ByteArray) ++ x).size = x.size + 1 := by rw [ByteArray.size_append, Nat.add_comm]; rfl
        have hz2 : ¬ 9223372036854775807 < 1 + x.size := by omega
        have hz3 : ¬ 9223372036854775807 < x.size + 1 := by omega
        go_wp2_with fail
        refine (split_any ((⟨#[47]⟩ : ByteArray) ++ x) (by rw [hz1]; omega) _).mono ?_
        rintro e w2 ⟨v, rfl, hk2, hbb⟩
        obtain ⟨xa, xc, rfl, _, _⟩ := hk2.shape
        have HL2 := Lib.hid (HL.out.trans (hbb.mono HL.out.size))
        have q1 : w2.cell? ⟨b, off + k, none⟩ = some (.string x) := (hbb.cell (p := ⟨b, off + k, none⟩) hb).trans q1
        have HN2 : Hid (x.size ≤ 300 → (splitD ((⟨#[47]⟩ : ByteArray) ++ x)).2 = 0 → (splitD ((⟨#[47]⟩ : ByteArray) ++ x)).1.length = 1 → ∀ x ∈ l0.take (k + 1), x.size ≤ 300 ∧ nameD x) := fun e1 e2 e3 => HN.out ⟨e1, one_name e2 e3⟩
        clear hbb hk2 HN
        generalize (splitD ((⟨#[47]⟩ : ByteArray) ++ x)).2 = ec at *
        generalize (splitD ((⟨#[47]⟩ : ByteArray) ++ x)).1.length = n at *
        clear hz1 hz2 hz3
        have hkk : k ≤ 30 := HK30.out
        by_cases h3 : x.size ≤ 300
        · have d3 : ((300 : Int) < (x.size : Int)) = False := eq_false (by omega)
          by_cases h4 : ec = 0
          · by_cases h5 : n = 1
            · subst h4 h5
              have HN3 := Lib.hid (HN2.out h3 rfl rfl)
              clear h3 HN2
              go_wp2
              go_roundw
              case rel => exact ⟨k + 1, by omega, by go_num, HN3, HL2⟩
              case measure => simp [intOf]; omega
            · have d5 : ((n : Int) != 1) = true := by simp only [bne_iff_ne, ne_eq]; omega
              subst h4
              clear h3 h5 HN2
              go_wp2_with fail
              refine (live_any _).mono ?_
              rintro e wl ⟨rfl, hb⟩
              have HL := Lib.hid (HL2.out.trans (hb.mono HL2.out.size))
              clear hb
              go_wp2
              go_ret
              exact ⟨rfl, HL.out⟩
          · have d4 : (ec != 0) = true := by simpa using h4
            clear h3 h4 HN2
            go_wp2_with fail
            refine (live_any _).mono ?_
            rintro e wl ⟨rfl, hb⟩
            have HL := Lib.hid (HL2.out.trans (hb.mono HL2.out.size))
            clear hb
            go_wp2
            go_ret
            exact ⟨rfl, HL.out⟩
        · have d3 : ((300 : Int) < (x.size : Int)) = True := eq_true (by omega)
          clear h3 HN2
          go_wp2_with fail
          refine (live_any _).mono ?_
          rintro e wl ⟨rfl, hb⟩
          have HL := Lib.hid (HL2.out.trans (hb.mono HL2.out.size))
          clear hb
          go_wp2
          go_ret
          exact ⟨rfl, HL.out⟩
      · have hke : k = l0.length := by omega
        subst hke
        have HA : Hid (∀ x ∈ l0, x.size ≤ 300 ∧ nameD x) := by have := HT.out; rwa [List.take_length] at this
        have HZ := Lib.hid (join_le (m := 300) (l := l0) (fun x hx => (HA.out x hx).1))
        have HZ1 : Hid ((joinD l0).size ≤ 1000000) := by show _ ≤ _; have := HZ.out; have := H1.out; omega
        have HSJ := Lib.hid (split_join (fun x hx => (HA.out x hx).2))
        have HSk := Lib.hid (HS.out.keepB HL.out)
        have HLN : Hid (l0.length ≤ 100000) := Nat.le_trans H1.out (by decide)
        have HB0 := Lib.hid HL.out
        clear HT HZ HA HL
        go_wp2_with fail
        refine (join_any x0 c0 l0 _ HSk.out HC.out HZ1.out).mono ?_
        rintro e w2 ⟨rfl, hb⟩
        have HSk := Lib.hid (HSk.out.keepB hb)
        have HB1 := Lib.hid (HB0.out.trans (hb.mono HB0.out.size))
        clear hb HB0
        go_wp2_with fail
        refine (split_any (joinD l0) (Nat.le_trans HZ1.out (by decide)) _).mono ?_
        rintro e w3 ⟨v, rfl, hk2, hb⟩
        rw [HSJ.out] at hk2 ⊢
        dsimp only at hk2 ⊢
        obtain ⟨xa, xc, rfl, hs1, _⟩ := hk2.shape
        have HS1 := Lib.hid hs1
        have HSk := Lib.hid (HSk.out.keepB hb)
        have HB2 := Lib.hid (HB1.out.trans (hb.mono HB1.out.size))
        clear hb HB1 hk2 hs1
        go_wp2_with fail
        refine (same_keys xa x0 xc c0 l0 l0 _ HS1.out HSk.out HLN.out).mono ?_
        rintro e w4 ⟨rfl, hb⟩
        simp only [decide_true]
        have HB3 := Lib.hid (HB2.out.trans (hb.mono HB2.out.size))
        clear hb HB2
        go_wp2_with fail
        refine (live_any _).mono ?_
        rintro e wl ⟨rfl, hb⟩
        have HL := Lib.hid (HB3.out.trans (hb.mono HB3.out.size))
        clear hb
        go_wp2
        go_ret
        exact ⟨rfl, HL.out⟩
  · have d1 : ((30 : Int) < (l0.length : Int)) = True := eq_true (by omega)
    clear h1
    go_enter Tryd.func8, Tryd.ntmps8
    go_wp2_with fail
    refine (live_any _).mono ?_
    rintro e wl ⟨rfl, hb⟩
    have HL := Lib.hid hb
    clear hb
    go_wp2
    go_ret
    exact ⟨rfl, HL.out⟩
end Go.Proofs.YtjimjaimfejonaaDoor.pathNames
