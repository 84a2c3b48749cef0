/-
  Contracts of package dev: Crash.
-/
import Derived.Test.YtflobdhhjfpcdaaDevFlush
namespace Go.Proofs.Ytflobdhhjfpcdaa
open Go.RowKit Go.ChangeShapes Go.WideShapes Go.ChangeAt

theorem crash_nil (ka : Option Addr) (kn kc : Nat) (w : World) : Calls Try.prog 19 #[.pointer none, .slice ka kn kc] w fun e w' => e = .returned (.int .i64 1) ∧ w = w' := by
  go_enter Try.func19, Try.ntmps19
  go_wp2
  go_ret
  exact ⟨rfl, rfl⟩

def crashD (d : DevD) (keep : List Bool) : DevD := endD d (keptL d.waits keep)
set_option maxRecDepth 100000 in
theorem crash_anyU (p : DevP) (d : DevD) (ka : Option Addr) (kc : Nat) (keep : List Bool) (w : World) (h : DevAt w p d) (hk : Sl w Value.bool ka keep) (hlen : d.waits.length ≤ 100000) :
    Calls Try.prog 19 #[.pointer (some ⟨p.b, 0, none⟩), .slice ka keep.length kc] w fun e w' => e = .returned (.int .i64 0) ∧ DevTo p (crashD d keep) w w' := by
  have c6 : w.cell? ⟨p.b, 6, none⟩ = some p.wv := h.box.cell 6 _ rfl
  have H := Lib.hid h
  have HL := Lib.hid hlen
  have HK := Lib.hid hk
  clear h hlen hk
  go_enter Try.func19, Try.ntmps19
  go_wp2_with fail
  refine (kept_anyU p.wv d.waits ka kc keep _ H.out.wt HK.out HL.out).mono ?_
  rintro e w1 ⟨v', rfl, hw, hn, hb⟩
  have H1 := Lib.hid (H.out.chg (Chg.of (S := []) hb (Nat.le_refl _)) (fun _ _ hm => by cases hm))
  have HW := Lib.hid hw
  have HB := Lib.hid (Chg.of (S := []) hb (Nat.le_refl _))
  have HN : Hid (∀ k, v'.ownBlock = some k → k ≠ p.h0 ∧ k ≠ p.h1) := fun k hk => by
    have := hn k hk
    have := H.out.h0.lt
    have := H.out.h1.lt
    exact ⟨by omega, by omega⟩
  have HLL : Hid ((keptL d.waits keep).length ≤ 100000) := Nat.le_trans (keptN_len d.waits keep d.waits.length) HL.out
  clear hw hn hb c6
  go_wp2_with fail
  refine (dend_any p d v' (keptL d.waits keep) _ H1.out HW.out HN.out (fun x hx => H.out.wok x (keptN_mem d.waits keep d.waits.length (Nat.le_refl _) x hx)) HLL.out).mono ?_
  rintro e w2 ⟨rfl, hd⟩
  have HD := Lib.hid (DevTo.ofChg HB.out hd)
  clear hd
  go_wp2
  go_ret
  exact ⟨rfl, HD.out⟩
theorem crash_any (p : DevP) (d : DevD) (ka : Option Addr) (kc : Nat) (keep : List Bool) (w : World) (h : DevAt w p d) (hk : Sl w Value.bool ka keep) (hlen : d.waits.length ≤ 100000) (_hkl : keep.length ≤ 100000) :
    Calls Try.prog 19 #[.pointer (some ⟨p.b, 0, none⟩), .slice ka keep.length kc] w fun e w' => e = .returned (.int .i64 0) ∧ DevTo p (crashD d keep) w w' := crash_anyU p d ka kc keep w h hk hlen
end Go.Proofs.Ytflobdhhjfpcdaa
