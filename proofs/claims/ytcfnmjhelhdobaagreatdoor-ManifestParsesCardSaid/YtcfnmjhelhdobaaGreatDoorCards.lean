/-
  DERIVED. GIVEN WITH THE SEED: THE CARDS: each row of YtcfnmjhelhdobaaGreatDoorRows.lean that lists a variable, with what it lists TIED to the program's text (the seventh form; the later family's looks); each row that meets fmt, with fmt's text TOLD by the authors' own Lean function (tested against real Go, not proved from fmt's source: count such statements apart). THE CARD IS WHAT COUNTS. Prove the row's statement (the work); the ties are given (YtcfnmjhelhdobaaGreatDoorTie.lean); close each card by the builder's one call (the guide's Derived/Test/ToyasCard.lean, 'card_holds'). Laid BY PROGRAM, IN A SANDBOX (cutbox-door.mjs). By AI agents, Wed Nov 11 2026. No macro, syntax, notation, axiom, sorry.
-/
import Derived.Test.YtcfnmjhelhdobaaGreatDoorRows
import GoSem.ClaimSeven
namespace Go.Proofs.YtcfnmjhelhdobaaGreatDoor
namespace Rows

/-- THE TIED CARD OF 'lockagelaw08.ManifestParses'. -/
def manifestParsesCard : Claim7 := { stood := { row := manifestParsesRow, standIns := [], harness := (true, "7bc10c5cdce37666af7218e5664964cc2675ca7906b618d35996903ab8f7f2fd"), looks := true }, kinds := [], alts := [], laidByText := true, laidKinds := [.data, .data, .data, .handle, .sentinel, .sentinel], laidTests := true, laidLooks := .later }
def ManifestParsesCardSaid : Prop := Claim7.holds Tryz.pinned (.plain (OpenSpec.ofChange manifestParsesSpec)) manifestParsesCard

/-- THE TIED CARD OF 'lockagelaw08.ManifestFirst'. -/
def manifestFirstCard : Claim7 := { stood := { row := manifestFirstRow, standIns := [], harness := (true, "7bc10c5cdce37666af7218e5664964cc2675ca7906b618d35996903ab8f7f2fd"), looks := true }, kinds := [], alts := [], laidByText := true, laidKinds := [.data, .data, .data, .handle, .sentinel, .sentinel], laidTests := true, laidLooks := .later }
def ManifestFirstCardSaid : Prop := Claim7.holds Tryz.pinned (.plain (OpenSpec.ofChange manifestFirstSpec)) manifestFirstCard

/-- THE TIED CARD OF 'lockagelaw08.ManifestCanon'. -/
def manifestCanonCard : Claim7 := { stood := { row := manifestCanonRow, standIns := [], harness := (true, "7bc10c5cdce37666af7218e5664964cc2675ca7906b618d35996903ab8f7f2fd"), looks := true }, kinds := [], alts := [], laidByText := true, laidKinds := [.data, .data, .data, .handle, .sentinel, .sentinel], laidTests := true, laidLooks := .later }
def ManifestCanonCardSaid : Prop := Claim7.holds Tryz.pinned (.plain (OpenSpec.ofChange manifestCanonSpec)) manifestCanonCard

/-- THE TIED CARD OF 'lockagelaw08.ManifestOrder'. -/
def manifestOrderCard : Claim7 := { stood := { row := manifestOrderRow, standIns := [], harness := (true, "7bc10c5cdce37666af7218e5664964cc2675ca7906b618d35996903ab8f7f2fd"), looks := true }, kinds := [], alts := [], laidByText := true, laidKinds := [.data, .data, .data, .handle, .sentinel, .sentinel], laidTests := true, laidLooks := .later }
def ManifestOrderCardSaid : Prop := Claim7.holds Tryz.pinned (.plain (OpenSpec.ofChange manifestOrderSpec)) manifestOrderCard

/-- THE SECOND FORM's CARD OF 'lockagelaw08.ManifestParses'. -/
def manifestParsesUptoCard : Claim7 := { stood := { row := manifestParsesUptoRow, standIns := [], harness := (true, "7bc10c5cdce37666af7218e5664964cc2675ca7906b618d35996903ab8f7f2fd"), looks := true }, kinds := [], alts := [], laidByText := true, laidKinds := [.data, .data, .data, .handle, .sentinel, .sentinel], laidTests := true, laidLooks := .later }
def ManifestParsesUptoCardSaid : Prop := Claim7.holds Tryz.pinned (.plain (OpenSpec.upto manifestParsesSpec)) manifestParsesUptoCard

/-- THE SECOND FORM's CARD OF 'lockagelaw08.ManifestFirst'. -/
def manifestFirstUptoCard : Claim7 := { stood := { row := manifestFirstUptoRow, standIns := [], harness := (true, "7bc10c5cdce37666af7218e5664964cc2675ca7906b618d35996903ab8f7f2fd"), looks := true }, kinds := [], alts := [], laidByText := true, laidKinds := [.data, .data, .data, .handle, .sentinel, .sentinel], laidTests := true, laidLooks := .later }
def ManifestFirstUptoCardSaid : Prop := Claim7.holds Tryz.pinned (.plain (OpenSpec.upto manifestFirstSpec)) manifestFirstUptoCard

/-- THE SECOND FORM's CARD OF 'lockagelaw08.ManifestCanon'. -/
def manifestCanonUptoCard : Claim7 := { stood := { row := manifestCanonUptoRow, standIns := [], harness := (true, "7bc10c5cdce37666af7218e5664964cc2675ca7906b618d35996903ab8f7f2fd"), looks := true }, kinds := [], alts := [], laidByText := true, laidKinds := [.data, .data, .data, .handle, .sentinel, .sentinel], laidTests := true, laidLooks := .later }
def ManifestCanonUptoCardSaid : Prop := Claim7.holds Tryz.pinned (.plain (OpenSpec.upto manifestCanonSpec)) manifestCanonUptoCard

/-- THE SECOND FORM's CARD OF 'lockagelaw08.ManifestOrder'. -/
def manifestOrderUptoCard : Claim7 := { stood := { row := manifestOrderUptoRow, standIns := [], harness := (true, "7bc10c5cdce37666af7218e5664964cc2675ca7906b618d35996903ab8f7f2fd"), looks := true }, kinds := [], alts := [], laidByText := true, laidKinds := [.data, .data, .data, .handle, .sentinel, .sentinel], laidTests := true, laidLooks := .later }
def ManifestOrderUptoCardSaid : Prop := Claim7.holds Tryz.pinned (.plain (OpenSpec.upto manifestOrderSpec)) manifestOrderUptoCard
end Rows
end Go.Proofs.YtcfnmjhelhdobaaGreatDoor
