/-
  DERIVED. GIVEN WITH THE SEED: THE CARDS: each row of YtfjaibaidpbppaaGreatDoorRows.lean that lists a variable, with what it lists TIED to the program's text (the seventh form; the later family's looks); each row that meets fmt, with fmt's text TOLD by the authors' own Lean function (tested against real Go, not proved from fmt's source: count such statements apart). THE CARD IS WHAT COUNTS. Prove the row's statement (the work); the ties are given (YtfjaibaidpbppaaGreatDoorTie.lean); close each card by the builder's one call (the guide's Derived/Test/ToyasCard.lean, 'card_holds'). Laid BY PROGRAM, IN A SANDBOX (cutbox-door.mjs). By AI agents, Wed Nov 11 2026. No macro, syntax, notation, axiom, sorry.
-/
import Derived.Test.YtfjaibaidpbppaaGreatDoorRows
import GoSem.ClaimSeven
namespace Go.Proofs.YtfjaibaidpbppaaGreatDoor
namespace Rows

/-- THE TIED CARD OF 'lockagelaw13.RunTimes'. -/
def runTimesCard : Claim7 := { stood := { row := runTimesRow, standIns := [], harness := (true, "38ca40dad5d14983f926939e0520d4bfebe263b53ef69ceea4cf5a313ac4663c"), looks := true }, kinds := [], alts := [], laidByText := true, laidKinds := [.data, .data, .data, .sentinel, .sentinel], laidTests := true, laidLooks := .later }
def RunTimesCardSaid : Prop := Claim7.holds Tryz.pinned (.plain (OpenSpec.ofChange runTimesSpec)) runTimesCard

/-- THE TIED CARD OF 'lockagelaw13.RunReads'. -/
def runReadsCard : Claim7 := { stood := { row := runReadsRow, standIns := [], harness := (true, "38ca40dad5d14983f926939e0520d4bfebe263b53ef69ceea4cf5a313ac4663c"), looks := true }, kinds := [], alts := [], laidByText := true, laidKinds := [.data, .data, .data, .sentinel, .sentinel], laidTests := true, laidLooks := .later }
def RunReadsCardSaid : Prop := Claim7.holds Tryz.pinned (.plain (OpenSpec.ofChange runReadsSpec)) runReadsCard

/-- THE TIED CARD OF 'lockagelaw13.RunNil'. -/
def runNilCard : Claim7 := { stood := { row := runNilRow, standIns := [], harness := (true, "38ca40dad5d14983f926939e0520d4bfebe263b53ef69ceea4cf5a313ac4663c"), looks := true }, kinds := [], alts := [], laidByText := true, laidKinds := [.data, .data, .data, .sentinel, .sentinel], laidTests := true, laidLooks := .later }
def RunNilCardSaid : Prop := Claim7.holds Tryz.pinned (.plain (OpenSpec.ofChange runNilSpec)) runNilCard

/-- THE SECOND FORM's CARD OF 'lockagelaw13.RunTimes'. -/
def runTimesUptoCard : Claim7 := { stood := { row := runTimesUptoRow, standIns := [], harness := (true, "38ca40dad5d14983f926939e0520d4bfebe263b53ef69ceea4cf5a313ac4663c"), looks := true }, kinds := [], alts := [], laidByText := true, laidKinds := [.data, .data, .data, .sentinel, .sentinel], laidTests := true, laidLooks := .later }
def RunTimesUptoCardSaid : Prop := Claim7.holds Tryz.pinned (.plain (OpenSpec.upto runTimesSpec)) runTimesUptoCard

/-- THE SECOND FORM's CARD OF 'lockagelaw13.RunReads'. -/
def runReadsUptoCard : Claim7 := { stood := { row := runReadsUptoRow, standIns := [], harness := (true, "38ca40dad5d14983f926939e0520d4bfebe263b53ef69ceea4cf5a313ac4663c"), looks := true }, kinds := [], alts := [], laidByText := true, laidKinds := [.data, .data, .data, .sentinel, .sentinel], laidTests := true, laidLooks := .later }
def RunReadsUptoCardSaid : Prop := Claim7.holds Tryz.pinned (.plain (OpenSpec.upto runReadsSpec)) runReadsUptoCard

/-- THE SECOND FORM's CARD OF 'lockagelaw13.RunNil'. -/
def runNilUptoCard : Claim7 := { stood := { row := runNilUptoRow, standIns := [], harness := (true, "38ca40dad5d14983f926939e0520d4bfebe263b53ef69ceea4cf5a313ac4663c"), looks := true }, kinds := [], alts := [], laidByText := true, laidKinds := [.data, .data, .data, .sentinel, .sentinel], laidTests := true, laidLooks := .later }
def RunNilUptoCardSaid : Prop := Claim7.holds Tryz.pinned (.plain (OpenSpec.upto runNilSpec)) runNilUptoCard
end Rows
end Go.Proofs.YtfjaibaidpbppaaGreatDoor
