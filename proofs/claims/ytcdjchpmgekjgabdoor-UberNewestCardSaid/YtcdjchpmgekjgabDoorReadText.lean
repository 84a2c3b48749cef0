/-
  The reader's Text and Left (package fixed).
-/
import Derived.Test.YtcdjchpmgekjgabDoorReader
namespace Go.Proofs.YtcdjchpmgekjgabDoor
open Go.RowKit

def textR (s : ByteArray) (e n : Int) : ByteArray := bytesR (numS s e n) (numR s n)
def textS (s : ByteArray) (e n : Int) : ByteArray := bytesS (numS s e n) (numE s e n) (numR s n)
def textE (s : ByteArray) (e n : Int) : Int := bytesE (numS s e n) (numE s e n) (numR s n)

theorem text_nil (n : Int) (w : World) : Calls Tryd.prog 44 #[.pointer none, .int .i64 n] w fun e w' => e = .returned (.string ⟨#[]⟩) ∧ w = w' := by
  go_enter Tryd.func44, Tryd.ntmps44
  go_wp2_with fail
  refine (number_nil n _).mono ?_
  rintro e w' ⟨rfl, rfl⟩
  go_wp2_with fail
  refine (bytes_nil 0 _).mono ?_
  rintro e w' ⟨rfl, rfl⟩
  go_wp2
  go_ret
  exact ⟨rfl, rfl⟩

theorem text_any (b : Nat) (s : ByteArray) (er n : Int) (w : World) (h : RdAt w b s er) :
    Calls Tryd.prog 44 #[.pointer (some ⟨b, 0, none⟩), .int .i64 n] w fun e w' => e = .returned (.string (textR s er n)) ∧ RdAt w' b (textS s er n) (textE s er n) ∧ Below b w w' := by
  have H := Lib.hid h
  clear h
  go_enter Tryd.func44, Tryd.ntmps44
  go_wp2_with fail
  refine (number_any b s er n _ H.out).mono ?_
  rintro e w1 ⟨rfl, hr, hb⟩
  have Hr := Lib.hid hr
  have Hb := Lib.hid hb
  clear hr hb
  go_wp2_with fail
  refine (bytes_any b _ _ _ _ Hr.out).mono ?_
  rintro e w2 ⟨rfl, hr, hb⟩
  have Hr2 := Lib.hid hr
  have Hb2 := Lib.hid (Hb.out.trans hb)
  clear hr hb
  go_wp2
  go_ret
  exact ⟨rfl, Hr2.out, Hb2.out⟩

end Go.Proofs.YtcdjchpmgekjgabDoor
