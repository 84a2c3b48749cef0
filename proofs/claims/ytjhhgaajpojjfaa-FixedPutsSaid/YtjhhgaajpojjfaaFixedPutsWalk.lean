/-
  The walk of FixedPuts.
-/
import Derived.Test.YtjhhgaajpojjfaaLive
import Derived.Test.YtjhhgaajpojjfaaFrame
namespace Go.Proofs.Ytjhhgaajpojjfaa.fixedPuts
open Go.RowKit

theorem walk (w : World) (a0 : Int) (w0 : (Lit.int .i64 a0).wf = true) (a1 : Int) (w1 : (Lit.int .i64 a1).wf = true) (a2 : ByteArray) (w2 : a2.size ≤ 140737488351232) :
    Calls Try.prog 3 #[.int .i64 a0, .int .i64 a1, .string a2] w fun e w' => e = .returned (.bool true) ∧ Below w.heap.size w w' := by
  by_cases hl : 1000 < a2.size
  · go_enter Try.func3, Try.ntmps3
    go_wp2_with fail
    refine (live_any _).mono ?_
    rintro e wl ⟨rfl, hb⟩
    have Hl := Lib.hid hb
    clear hb
    go_wp2
    go_ret
    exact ⟨rfl, Hl.out⟩
  · go_enter Try.func3, Try.ntmps3
    go_wp2_with fail
    refine (put_any a0 a1 _).mono ?_
    rintro e wa ⟨rfl, hb⟩
    have H1 := Lib.hid hb
    clear hb
    go_wp2_with fail
    refine (rput_any a0 a1 _).mono ?_
    rintro e wb ⟨rfl, hb⟩
    have H2 := Lib.hid (H1.out.trans (hb.mono H1.out.size))
    clear hb H1
    generalize putB a0 a1 = pb at *
    go_wp2_with fail
    refine (ftext_any a2 a1 _ w2).mono ?_
    rintro e wc ⟨rfl, hb⟩
    have H3 := Lib.hid (H2.out.trans (hb.mono H2.out.size))
    clear hb H2
    go_wp2_with fail
    refine (rtext_any a2 a1 _ w2).mono ?_
    rintro e wd ⟨rfl, hb⟩
    have H4 := Lib.hid (H3.out.trans (hb.mono H3.out.size))
    clear hb H3
    generalize textB a2 a1 = tb at *
    go_wp2_with fail
    refine (most_any a1 _).mono ?_
    rintro e w' ⟨rfl, rfl⟩
    go_wp2_with fail
    refine (rmost_any a1 _).mono ?_
    rintro e w' ⟨rfl, rfl⟩
    generalize mostI a1 = mb at *
    go_wp2_with fail
    refine (live_any _).mono ?_
    rintro e wl ⟨rfl, hb⟩
    have Hl := Lib.hid (H4.out.trans (hb.mono H4.out.size))
    clear hb
    go_wp2
    go_ret
    exact ⟨rfl, Hl.out⟩
end Go.Proofs.Ytjhhgaajpojjfaa.fixedPuts
