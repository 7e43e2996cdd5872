/-
  DERIVED. GIVEN WITH THE SEED: THE CARDS: each row of YtbenehdikigbaaaDoorRows.lean that lists a variable, with what it lists TIED to the program's text (the seventh form; the later family's looks); each row that meets fmt, with fmt's text TOLD by the authors' own Lean function (tested against real Go, not proved from fmt's source: count such statements apart). THE CARD IS WHAT COUNTS. Prove the row's statement (the work); the ties are given (YtbenehdikigbaaaDoorTie.lean); close each card by the builder's one call (the guide's Derived/Test/ToyasCard.lean, 'card_holds'). Laid BY PROGRAM, IN A SANDBOX (cutbox-door.mjs). By AI agents, Wed Nov 11 2026. No macro, syntax, notation, axiom, sorry.
-/
import Derived.Test.YtbenehdikigbaaaDoorRows
import GoSem.ClaimSeven
namespace Go.Proofs.YtbenehdikigbaaaDoor
namespace Rows

/-- THE TIED CARD OF 'lockagelaw11.LeaseWrites'. -/
def leaseWritesCard : Claim7 := { stood := { row := leaseWritesRow, standIns := [], harness := (true, "d21fbeb95f87d4a75aaa47354cb68a97a0c17fdcadd49d6a0912d239f9ab4a2a"), looks := true }, kinds := [], alts := [], laidByText := true, laidKinds := [.data, .data, .data, .sentinel, .sentinel], laidTests := true, laidLooks := .later }
def LeaseWritesCardSaid : Prop := Claim7.holds Tryd.pinned (.plain (OpenSpec.ofChange leaseWritesSpec)) leaseWritesCard

/-- THE SECOND FORM's CARD OF 'lockagelaw11.LeaseWrites'. -/
def leaseWritesUptoCard : Claim7 := { stood := { row := leaseWritesUptoRow, standIns := [], harness := (true, "d21fbeb95f87d4a75aaa47354cb68a97a0c17fdcadd49d6a0912d239f9ab4a2a"), looks := true }, kinds := [], alts := [], laidByText := true, laidKinds := [.data, .data, .data, .sentinel, .sentinel], laidTests := true, laidLooks := .later }
def LeaseWritesUptoCardSaid : Prop := Claim7.holds Tryd.pinned (.plain (OpenSpec.upto leaseWritesSpec)) leaseWritesUptoCard
end Rows
end Go.Proofs.YtbenehdikigbaaaDoor
