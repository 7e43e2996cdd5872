/-
  DERIVED. GIVEN WITH THE SEED: THE CARDS: each row of YthmjeibanofliaaDoorRows.lean that lists a variable, with what it lists TIED to the program's text (the seventh form; the later family's looks); each row that meets fmt, with fmt's text TOLD by the authors' own Lean function (tested against real Go, not proved from fmt's source: count such statements apart). THE CARD IS WHAT COUNTS. Prove the row's statement (the work); the ties are given (YthmjeibanofliaaDoorTie.lean); close each card by the builder's one call (the guide's Derived/Test/ToyasCard.lean, 'card_holds'). Laid BY PROGRAM, IN A SANDBOX (cutbox-door.mjs). By AI agents, Wed Nov 11 2026. No macro, syntax, notation, axiom, sorry.
-/
import Derived.Test.YthmjeibanofliaaDoorRows
import GoSem.ClaimSeven
namespace Go.Proofs.YthmjeibanofliaaDoor
namespace Rows

/-- THE TIED CARD OF 'lockagelaw12.GateWrites'. -/
def gateWritesCard : Claim7 := { stood := { row := gateWritesRow, standIns := [], harness := (true, "c4d16d0499357cd8e59e2ca7274c3d7854b97231ab4202129db85439c7cc4b0e"), looks := true }, kinds := [], alts := [], laidByText := true, laidKinds := [.data, .data, .data, .sentinel, .sentinel], laidTests := true, laidLooks := .later }
def GateWritesCardSaid : Prop := Claim7.holds Tryd.pinned (.plain (OpenSpec.ofChange gateWritesSpec)) gateWritesCard

/-- THE SECOND FORM's CARD OF 'lockagelaw12.GateWrites'. -/
def gateWritesUptoCard : Claim7 := { stood := { row := gateWritesUptoRow, standIns := [], harness := (true, "c4d16d0499357cd8e59e2ca7274c3d7854b97231ab4202129db85439c7cc4b0e"), looks := true }, kinds := [], alts := [], laidByText := true, laidKinds := [.data, .data, .data, .sentinel, .sentinel], laidTests := true, laidLooks := .later }
def GateWritesUptoCardSaid : Prop := Claim7.holds Tryd.pinned (.plain (OpenSpec.upto gateWritesSpec)) gateWritesUptoCard
end Rows
end Go.Proofs.YthmjeibanofliaaDoor
