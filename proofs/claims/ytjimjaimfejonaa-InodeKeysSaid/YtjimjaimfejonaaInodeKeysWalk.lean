/-
  The walk of InodeKeys.
-/
import Derived.Test.YtjimjaimfejonaaInodeLive
import Derived.Test.YtjimjaimfejonaaFrame
import Derived.Test.YtjimjaimfejonaaInodeRKeys
namespace Go.Proofs.Ytjimjaimfejonaa.inodeKeys
open Go.RowKit

set_option maxRecDepth 100000 in
set_option maxHeartbeats 2000000 in
theorem walk (w : World) (a0 : Int) (_w0 : (Lit.int .i64 a0).wf = true) (a1 : Int) (_w1 : (Lit.int .i64 a1).wf = true) (a2 : ByteArray) (w2 : a2.size ≤ 140737488351232) :
    Calls Try.prog 3 #[.int .i64 a0, .int .i64 a1, .string a2] w fun e w' => e = .returned (.bool true) ∧ Below w.heap.size w w' := by
  by_cases hl : 400 < a2.size
  · skip
    go_enter Try.func3, Try.ntmps3
    go_wp2_with fail
    refine (live_any _).mono ?_
    rintro e v1 ⟨rfl, hb⟩
    have HB1 : Hid (Below w.heap.size w v1) := ⟨hb.os, hb.tape, hb.output, hb.size, hb.block⟩
    clear hb
    go_wp2
    go_ret
    exact ⟨rfl, HB1.out⟩
  · skip
    go_enter Try.func3, Try.ntmps3
    go_wp2_with fail
    refine (which_any a2 _).mono ?_
    rintro e v1 ⟨rfl, hb⟩
    have HB1 : Hid (Below w.heap.size w v1) := ⟨hb.os, hb.tape, hb.output, hb.size, hb.block⟩
    clear hb
    generalize hd : whichD a2 = d at *
    have HD := Lib.hid hd
    clear hd
    obtain ⟨dk, dn, dr, di⟩ := d
    unfold whV
    dsimp only
    go_wp2_with fail
    refine (rwhich_any a2 _).mono ?_
    rintro e v2 ⟨rfl, hb⟩
    have HB2 := Lib.hid (HB1.out.trans (hb.mono HB1.out.size))
    clear hb HB1
    rw [HD.out]
    unfold whV
    dsimp only
    go_wp2_with fail
    refine (key_any a0 _).mono ?_
    rintro e v3 ⟨rfl, hb⟩
    have HB3 := Lib.hid (HB2.out.trans (hb.mono HB2.out.size))
    clear hb HB2
    generalize ht1 : keyB a0 = t1 at *
    have HT1 := Lib.hid ht1
    clear ht1
    go_wp2_with fail
    refine (rkey_any a0 _).mono ?_
    rintro e v4 ⟨rfl, hb⟩
    have HB4 := Lib.hid (HB3.out.trans (hb.mono HB3.out.size))
    clear hb HB3
    rw [HT1.out]
    go_wp2_with fail
    refine (entry_any a0 a2 _).mono ?_
    rintro e v5 ⟨rfl, hb⟩
    have HB5 := Lib.hid (HB4.out.trans (hb.mono HB4.out.size))
    clear hb HB4
    generalize ht2 : entB a0 a2 = t2 at *
    have HT2 := Lib.hid ht2
    clear ht2
    go_wp2_with fail
    refine (rentry_any a0 a2 _).mono ?_
    rintro e v6 ⟨rfl, hb⟩
    have HB6 := Lib.hid (HB5.out.trans (hb.mono HB5.out.size))
    clear hb HB5
    rw [HT2.out]
    go_wp2_with fail
    refine (chunk_any a0 a1 _).mono ?_
    rintro e v7 ⟨rfl, hb⟩
    have HB7 := Lib.hid (HB6.out.trans (hb.mono HB6.out.size))
    clear hb HB6
    generalize ht3 : chkB a0 a1 = t3 at *
    have HT3 := Lib.hid ht3
    clear ht3
    go_wp2_with fail
    refine (rchunk_any a0 a1 _).mono ?_
    rintro e v8 ⟨rfl, hb⟩
    have HB8 := Lib.hid (HB7.out.trans (hb.mono HB7.out.size))
    clear hb HB7
    rw [HT3.out]
    go_wp2_with fail
    refine (live_any _).mono ?_
    rintro e v9 ⟨rfl, hb⟩
    have HB9 := Lib.hid (HB8.out.trans (hb.mono HB8.out.size))
    clear hb HB8
    go_wp2
    go_ret
    exact ⟨rfl, HB9.out⟩
end Go.Proofs.Ytjimjaimfejonaa.inodeKeys
