/-
  DERIVED. GIVEN WITH THE SEED: THE CARDS: each row of YtcddbpdebklhnaaGreatDoorRows.lean that lists a variable, with what it lists TIED to the program's text (the seventh form; the later family's looks); each row that meets fmt, with fmt's text TOLD by the authors' own Lean function (tested against real Go, not proved from fmt's source: count such statements apart). THE CARD IS WHAT COUNTS. Prove the row's statement (the work); the ties are given (YtcddbpdebklhnaaGreatDoorTie.lean); close each card by the builder's one call (the guide's Derived/Test/ToyasCard.lean, 'card_holds'). Laid BY PROGRAM, IN A SANDBOX (cutbox-door.mjs). By AI agents, Wed Nov 11 2026. No macro, syntax, notation, axiom, sorry.
-/
import Derived.Test.YtcddbpdebklhnaaGreatDoorRows
import GoSem.ClaimSeven
namespace Go.Proofs.YtcddbpdebklhnaaGreatDoor
namespace Rows

/-- THE TIED CARD OF 'lockagelaw10.CheckGates'. -/
def checkGatesCard : Claim7 := { stood := { row := checkGatesRow, standIns := [], harness := (true, "87f0c19a022caa0678ddef0c1a18c1c14892b2016e68a7273208c12db7a2a967"), looks := true }, kinds := [], alts := [], laidByText := true, laidKinds := [.handle], laidTests := true, laidLooks := .later }
def CheckGatesCardSaid : Prop := Claim7.holds Tryz.pinned (.plain (OpenSpec.ofChange checkGatesSpec)) checkGatesCard

/-- THE TIED CARD OF 'lockagelaw10.CheckVoters'. -/
def checkVotersCard : Claim7 := { stood := { row := checkVotersRow, standIns := [], harness := (true, "87f0c19a022caa0678ddef0c1a18c1c14892b2016e68a7273208c12db7a2a967"), looks := true }, kinds := [], alts := [], laidByText := true, laidKinds := [.handle], laidTests := true, laidLooks := .later }
def CheckVotersCardSaid : Prop := Claim7.holds Tryz.pinned (.plain (OpenSpec.ofChange checkVotersSpec)) checkVotersCard

/-- THE SECOND FORM's CARD OF 'lockagelaw10.CheckGates'. -/
def checkGatesUptoCard : Claim7 := { stood := { row := checkGatesUptoRow, standIns := [], harness := (true, "87f0c19a022caa0678ddef0c1a18c1c14892b2016e68a7273208c12db7a2a967"), looks := true }, kinds := [], alts := [], laidByText := true, laidKinds := [.handle], laidTests := true, laidLooks := .later }
def CheckGatesUptoCardSaid : Prop := Claim7.holds Tryz.pinned (.plain (OpenSpec.upto checkGatesSpec)) checkGatesUptoCard

/-- THE SECOND FORM's CARD OF 'lockagelaw10.CheckVoters'. -/
def checkVotersUptoCard : Claim7 := { stood := { row := checkVotersUptoRow, standIns := [], harness := (true, "87f0c19a022caa0678ddef0c1a18c1c14892b2016e68a7273208c12db7a2a967"), looks := true }, kinds := [], alts := [], laidByText := true, laidKinds := [.handle], laidTests := true, laidLooks := .later }
def CheckVotersUptoCardSaid : Prop := Claim7.holds Tryz.pinned (.plain (OpenSpec.upto checkVotersSpec)) checkVotersUptoCard
end Rows
end Go.Proofs.YtcddbpdebklhnaaGreatDoor
