/-
  DERIVED. GIVEN WITH THE SEED: THE CARDS: each row of YteimpebfenpifaaGreatDoorRows.lean that lists a variable, with what it lists TIED to the program's text (the seventh form; the later family's looks); each row that meets fmt, with fmt's text TOLD by the authors' own Lean function (tested against real Go, not proved from fmt's source: count such statements apart). THE CARD IS WHAT COUNTS. Prove the row's statement (the work); the ties are given (YteimpebfenpifaaGreatDoorTie.lean); close each card by the builder's one call (the guide's Derived/Test/ToyasCard.lean, 'card_holds'). Laid BY PROGRAM, IN A SANDBOX (cutbox-door.mjs). By AI agents, Wed Nov 11 2026. No macro, syntax, notation, axiom, sorry.
-/
import Derived.Test.YteimpebfenpifaaGreatDoorRows
import GoSem.ClaimSeven
namespace Go.Proofs.YteimpebfenpifaaGreatDoor
namespace Rows

/-- THE TIED CARD OF 'permafrostlaw17.ModelScripts'. -/
def modelScriptsCard : Claim7 := { stood := { row := modelScriptsRow, standIns := [], harness := (true, "f876c13d0db7bef73372ff6dde6d0fa9f317d10634a621d19595c7246059844d"), looks := true }, kinds := [], alts := [], laidByText := true, laidKinds := [.data, .data, .data, .data, .pinned], laidTests := true, laidLooks := .later }
def ModelScriptsCardSaid : Prop := Claim7.holds Tryz.pinned (.plain (OpenSpec.ofChange modelScriptsSpec)) modelScriptsCard

/-- THE TIED CARD OF 'permafrostlaw17.ModelWritten'. -/
def modelWrittenCard : Claim7 := { stood := { row := modelWrittenRow, standIns := [], harness := (true, "f876c13d0db7bef73372ff6dde6d0fa9f317d10634a621d19595c7246059844d"), looks := true }, kinds := [], alts := [], laidByText := true, laidKinds := [.data, .data, .data, .data, .pinned], laidTests := true, laidLooks := .later }
def ModelWrittenCardSaid : Prop := Claim7.holds Tryz.pinned (.plain (OpenSpec.ofChange modelWrittenSpec)) modelWrittenCard

/-- THE TIED CARD OF 'permafrostlaw17.ModelApart'. -/
def modelApartCard : Claim7 := { stood := { row := modelApartRow, standIns := [], harness := (true, "f876c13d0db7bef73372ff6dde6d0fa9f317d10634a621d19595c7246059844d"), looks := true }, kinds := [], alts := [], laidByText := true, laidKinds := [.data, .data, .data, .data, .pinned], laidTests := true, laidLooks := .later }
def ModelApartCardSaid : Prop := Claim7.holds Tryz.pinned (.plain (OpenSpec.ofChange modelApartSpec)) modelApartCard

/-- THE TIED CARD OF 'permafrostlaw17.ModelMoves'. -/
def modelMovesCard : Claim7 := { stood := { row := modelMovesRow, standIns := [], harness := (true, "f876c13d0db7bef73372ff6dde6d0fa9f317d10634a621d19595c7246059844d"), looks := true }, kinds := [], alts := [], laidByText := true, laidKinds := [.data, .data, .data, .data, .pinned], laidTests := true, laidLooks := .later }
def ModelMovesCardSaid : Prop := Claim7.holds Tryz.pinned (.plain (OpenSpec.ofChange modelMovesSpec)) modelMovesCard

/-- THE TIED CARD OF 'permafrostlaw17.ModelNil'. -/
def modelNilCard : Claim7 := { stood := { row := modelNilRow, standIns := [], harness := (true, "f876c13d0db7bef73372ff6dde6d0fa9f317d10634a621d19595c7246059844d"), looks := true }, kinds := [], alts := [], laidByText := true, laidKinds := [.data, .data, .data, .data, .pinned], laidTests := true, laidLooks := .later }
def ModelNilCardSaid : Prop := Claim7.holds Tryz.pinned (.plain (OpenSpec.ofChange modelNilSpec)) modelNilCard

/-- THE TIED CARD OF 'permafrostlaw17.ModelRefused'. -/
def modelRefusedCard : Claim7 := { stood := { row := modelRefusedRow, standIns := [], harness := (true, "f876c13d0db7bef73372ff6dde6d0fa9f317d10634a621d19595c7246059844d"), looks := true }, kinds := [], alts := [], laidByText := true, laidKinds := [.data, .data, .data, .data, .pinned], laidTests := true, laidLooks := .later }
def ModelRefusedCardSaid : Prop := Claim7.holds Tryz.pinned (.plain (OpenSpec.ofChange modelRefusedSpec)) modelRefusedCard

/-- THE TIED CARD OF 'permafrostlaw17.ModelListed'. -/
def modelListedCard : Claim7 := { stood := { row := modelListedRow, standIns := [], harness := (true, "f876c13d0db7bef73372ff6dde6d0fa9f317d10634a621d19595c7246059844d"), looks := true }, kinds := [], alts := [], laidByText := true, laidKinds := [.data, .data, .data, .data, .pinned], laidTests := true, laidLooks := .later }
def ModelListedCardSaid : Prop := Claim7.holds Tryz.pinned (.plain (OpenSpec.ofChange modelListedSpec)) modelListedCard

/-- THE SECOND FORM's CARD OF 'permafrostlaw17.ModelScripts'. -/
def modelScriptsUptoCard : Claim7 := { stood := { row := modelScriptsUptoRow, standIns := [], harness := (true, "f876c13d0db7bef73372ff6dde6d0fa9f317d10634a621d19595c7246059844d"), looks := true }, kinds := [], alts := [], laidByText := true, laidKinds := [.data, .data, .data, .data, .pinned], laidTests := true, laidLooks := .later }
def ModelScriptsUptoCardSaid : Prop := Claim7.holds Tryz.pinned (.plain (OpenSpec.upto modelScriptsSpec)) modelScriptsUptoCard

/-- THE SECOND FORM's CARD OF 'permafrostlaw17.ModelWritten'. -/
def modelWrittenUptoCard : Claim7 := { stood := { row := modelWrittenUptoRow, standIns := [], harness := (true, "f876c13d0db7bef73372ff6dde6d0fa9f317d10634a621d19595c7246059844d"), looks := true }, kinds := [], alts := [], laidByText := true, laidKinds := [.data, .data, .data, .data, .pinned], laidTests := true, laidLooks := .later }
def ModelWrittenUptoCardSaid : Prop := Claim7.holds Tryz.pinned (.plain (OpenSpec.upto modelWrittenSpec)) modelWrittenUptoCard

/-- THE SECOND FORM's CARD OF 'permafrostlaw17.ModelApart'. -/
def modelApartUptoCard : Claim7 := { stood := { row := modelApartUptoRow, standIns := [], harness := (true, "f876c13d0db7bef73372ff6dde6d0fa9f317d10634a621d19595c7246059844d"), looks := true }, kinds := [], alts := [], laidByText := true, laidKinds := [.data, .data, .data, .data, .pinned], laidTests := true, laidLooks := .later }
def ModelApartUptoCardSaid : Prop := Claim7.holds Tryz.pinned (.plain (OpenSpec.upto modelApartSpec)) modelApartUptoCard

/-- THE SECOND FORM's CARD OF 'permafrostlaw17.ModelMoves'. -/
def modelMovesUptoCard : Claim7 := { stood := { row := modelMovesUptoRow, standIns := [], harness := (true, "f876c13d0db7bef73372ff6dde6d0fa9f317d10634a621d19595c7246059844d"), looks := true }, kinds := [], alts := [], laidByText := true, laidKinds := [.data, .data, .data, .data, .pinned], laidTests := true, laidLooks := .later }
def ModelMovesUptoCardSaid : Prop := Claim7.holds Tryz.pinned (.plain (OpenSpec.upto modelMovesSpec)) modelMovesUptoCard

/-- THE SECOND FORM's CARD OF 'permafrostlaw17.ModelNil'. -/
def modelNilUptoCard : Claim7 := { stood := { row := modelNilUptoRow, standIns := [], harness := (true, "f876c13d0db7bef73372ff6dde6d0fa9f317d10634a621d19595c7246059844d"), looks := true }, kinds := [], alts := [], laidByText := true, laidKinds := [.data, .data, .data, .data, .pinned], laidTests := true, laidLooks := .later }
def ModelNilUptoCardSaid : Prop := Claim7.holds Tryz.pinned (.plain (OpenSpec.upto modelNilSpec)) modelNilUptoCard

/-- THE SECOND FORM's CARD OF 'permafrostlaw17.ModelRefused'. -/
def modelRefusedUptoCard : Claim7 := { stood := { row := modelRefusedUptoRow, standIns := [], harness := (true, "f876c13d0db7bef73372ff6dde6d0fa9f317d10634a621d19595c7246059844d"), looks := true }, kinds := [], alts := [], laidByText := true, laidKinds := [.data, .data, .data, .data, .pinned], laidTests := true, laidLooks := .later }
def ModelRefusedUptoCardSaid : Prop := Claim7.holds Tryz.pinned (.plain (OpenSpec.upto modelRefusedSpec)) modelRefusedUptoCard

/-- THE SECOND FORM's CARD OF 'permafrostlaw17.ModelListed'. -/
def modelListedUptoCard : Claim7 := { stood := { row := modelListedUptoRow, standIns := [], harness := (true, "f876c13d0db7bef73372ff6dde6d0fa9f317d10634a621d19595c7246059844d"), looks := true }, kinds := [], alts := [], laidByText := true, laidKinds := [.data, .data, .data, .data, .pinned], laidTests := true, laidLooks := .later }
def ModelListedUptoCardSaid : Prop := Claim7.holds Tryz.pinned (.plain (OpenSpec.upto modelListedSpec)) modelListedUptoCard
end Rows
end Go.Proofs.YteimpebfenpifaaGreatDoor
