/-
  DERIVED. GIVEN WITH THE SEED: THE CARDS: each row of YtfnihldcnjnpbaaDoorRows.lean that lists a variable, with what it lists TIED to the program's text (the seventh form; the later family's looks); each row that meets fmt, with fmt's text TOLD by the authors' own Lean function (tested against real Go, not proved from fmt's source: count such statements apart). THE CARD IS WHAT COUNTS. Prove the row's statement (the work); the ties are given (YtfnihldcnjnpbaaDoorTie.lean); close each card by the builder's one call (the guide's Derived/Test/ToyasCard.lean, 'card_holds'). Laid BY PROGRAM, IN A SANDBOX (cutbox-door.mjs). By AI agents, Wed Nov 11 2026. No macro, syntax, notation, axiom, sorry.
-/
import Derived.Test.YtfnihldcnjnpbaaDoorRows
import GoSem.ClaimSeven
namespace Go.Proofs.YtfnihldcnjnpbaaDoor
namespace Rows

/-- THE TIED CARD OF 'permafrostlaw02.SumOf'. -/
def sumOfCard : Claim7 := { stood := { row := sumOfRow, standIns := [], harness := (true, "d5a2dc0754efd1fade5604c7f2b49d8072c46bb0a69ffaa060467a05b73a13b9"), looks := false }, kinds := [], alts := [], laidByText := true, laidKinds := [.data], laidTests := true, laidLooks := .later }
def SumOfCardSaid : Prop := Claim7.holds Tryd.pinned (.plain (OpenSpec.ofChange sumOfSpec)) sumOfCard

/-- THE TIED CARD OF 'permafrostlaw02.SumLong'. -/
def sumLongCard : Claim7 := { stood := { row := sumLongRow, standIns := [], harness := (true, "d5a2dc0754efd1fade5604c7f2b49d8072c46bb0a69ffaa060467a05b73a13b9"), looks := false }, kinds := [], alts := [], laidByText := true, laidKinds := [.data], laidTests := true, laidLooks := .later }
def SumLongCardSaid : Prop := Claim7.holds Tryd.pinned (.plain (OpenSpec.ofChange sumLongSpec)) sumLongCard

/-- THE TIED CARD OF 'permafrostlaw06.UberEncodes'. -/
def uberEncodesCard : Claim7 := { stood := { row := uberEncodesRow, standIns := [], harness := (true, "d5a2dc0754efd1fade5604c7f2b49d8072c46bb0a69ffaa060467a05b73a13b9"), looks := false }, kinds := [], alts := [], laidByText := true, laidKinds := [.data], laidTests := true, laidLooks := .later }
def UberEncodesCardSaid : Prop := Claim7.holds Tryd.pinned (.plain (OpenSpec.ofChange uberEncodesSpec)) uberEncodesCard

/-- THE TIED CARD OF 'permafrostlaw06.UberBack'. -/
def uberBackCard : Claim7 := { stood := { row := uberBackRow, standIns := [], harness := (true, "d5a2dc0754efd1fade5604c7f2b49d8072c46bb0a69ffaa060467a05b73a13b9"), looks := false }, kinds := [], alts := [], laidByText := true, laidKinds := [.data], laidTests := true, laidLooks := .later }
def UberBackCardSaid : Prop := Claim7.holds Tryd.pinned (.plain (OpenSpec.ofChange uberBackSpec)) uberBackCard

/-- THE SECOND FORM's CARD OF 'permafrostlaw02.SumOf'. -/
def sumOfUptoCard : Claim7 := { stood := { row := sumOfUptoRow, standIns := [], harness := (true, "d5a2dc0754efd1fade5604c7f2b49d8072c46bb0a69ffaa060467a05b73a13b9"), looks := false }, kinds := [], alts := [], laidByText := true, laidKinds := [.data], laidTests := true, laidLooks := .later }
def SumOfUptoCardSaid : Prop := Claim7.holds Tryd.pinned (.plain (OpenSpec.upto sumOfSpec)) sumOfUptoCard

/-- THE SECOND FORM's CARD OF 'permafrostlaw02.SumLong'. -/
def sumLongUptoCard : Claim7 := { stood := { row := sumLongUptoRow, standIns := [], harness := (true, "d5a2dc0754efd1fade5604c7f2b49d8072c46bb0a69ffaa060467a05b73a13b9"), looks := false }, kinds := [], alts := [], laidByText := true, laidKinds := [.data], laidTests := true, laidLooks := .later }
def SumLongUptoCardSaid : Prop := Claim7.holds Tryd.pinned (.plain (OpenSpec.upto sumLongSpec)) sumLongUptoCard

/-- THE SECOND FORM's CARD OF 'permafrostlaw06.UberEncodes'. -/
def uberEncodesUptoCard : Claim7 := { stood := { row := uberEncodesUptoRow, standIns := [], harness := (true, "d5a2dc0754efd1fade5604c7f2b49d8072c46bb0a69ffaa060467a05b73a13b9"), looks := false }, kinds := [], alts := [], laidByText := true, laidKinds := [.data], laidTests := true, laidLooks := .later }
def UberEncodesUptoCardSaid : Prop := Claim7.holds Tryd.pinned (.plain (OpenSpec.upto uberEncodesSpec)) uberEncodesUptoCard

/-- THE SECOND FORM's CARD OF 'permafrostlaw06.UberBack'. -/
def uberBackUptoCard : Claim7 := { stood := { row := uberBackUptoRow, standIns := [], harness := (true, "d5a2dc0754efd1fade5604c7f2b49d8072c46bb0a69ffaa060467a05b73a13b9"), looks := false }, kinds := [], alts := [], laidByText := true, laidKinds := [.data], laidTests := true, laidLooks := .later }
def UberBackUptoCardSaid : Prop := Claim7.holds Tryd.pinned (.plain (OpenSpec.upto uberBackSpec)) uberBackUptoCard
end Rows
end Go.Proofs.YtfnihldcnjnpbaaDoor
