/-
  DERIVED. GIVEN WITH THE SEED: THE CARDS: each row of YtnajbcbdncmbbaaDoorRows.lean that lists a variable, with what it lists TIED to the program's text (the seventh form; the later family's looks); each row that meets fmt, with fmt's text TOLD by the authors' own Lean function (tested against real Go, not proved from fmt's source: count such statements apart). THE CARD IS WHAT COUNTS. Prove the row's statement (the work); the ties are given (YtnajbcbdncmbbaaDoorTie.lean); close each card by the builder's one call (the guide's Derived/Test/ToyasCard.lean, 'card_holds'). Laid BY PROGRAM, IN A SANDBOX (cutbox-door.mjs). By AI agents, Wed Nov 11 2026. No macro, syntax, notation, axiom, sorry.
-/
import Derived.Test.YtnajbcbdncmbbaaDoorRows
import GoSem.ClaimSeven
namespace Go.Proofs.YtnajbcbdncmbbaaDoor
namespace Rows

/-- THE TIED CARD OF 'lockagelaw06.CodecBack'. -/
def codecBackCard : Claim7 := { stood := { row := codecBackRow, standIns := [], harness := (true, "e064a5f9718b69c43b9371dd1cee8ba9f737e05be764aea0a7d96920baefea98"), looks := true }, kinds := [], alts := [], laidByText := true, laidKinds := [.data, .data, .data, .sentinel, .sentinel], laidTests := true, laidLooks := .later }
def CodecBackCardSaid : Prop := Claim7.holds Tryd.pinned (.plain (OpenSpec.ofChange codecBackSpec)) codecBackCard

/-- THE TIED CARD OF 'lockagelaw06.CodecReads'. -/
def codecReadsCard : Claim7 := { stood := { row := codecReadsRow, standIns := [], harness := (true, "e064a5f9718b69c43b9371dd1cee8ba9f737e05be764aea0a7d96920baefea98"), looks := true }, kinds := [], alts := [], laidByText := true, laidKinds := [.data, .data, .data, .sentinel, .sentinel], laidTests := true, laidLooks := .later }
def CodecReadsCardSaid : Prop := Claim7.holds Tryd.pinned (.plain (OpenSpec.ofChange codecReadsSpec)) codecReadsCard

/-- THE TIED CARD OF 'lockagelaw06.CodecOne'. -/
def codecOneCard : Claim7 := { stood := { row := codecOneRow, standIns := [], harness := (true, "e064a5f9718b69c43b9371dd1cee8ba9f737e05be764aea0a7d96920baefea98"), looks := true }, kinds := [], alts := [], laidByText := true, laidKinds := [.data, .data, .data, .sentinel, .sentinel], laidTests := true, laidLooks := .later }
def CodecOneCardSaid : Prop := Claim7.holds Tryd.pinned (.plain (OpenSpec.ofChange codecOneSpec)) codecOneCard

/-- THE TIED CARD OF 'lockagelaw06.CodecNil'. -/
def codecNilCard : Claim7 := { stood := { row := codecNilRow, standIns := [], harness := (true, "e064a5f9718b69c43b9371dd1cee8ba9f737e05be764aea0a7d96920baefea98"), looks := true }, kinds := [], alts := [], laidByText := true, laidKinds := [.data, .data, .data, .sentinel, .sentinel], laidTests := true, laidLooks := .later }
def CodecNilCardSaid : Prop := Claim7.holds Tryd.pinned (.plain (OpenSpec.ofChange codecNilSpec)) codecNilCard

/-- THE TIED CARD OF 'lockagelaw06.CodecStops'. -/
def codecStopsCard : Claim7 := { stood := { row := codecStopsRow, standIns := [], harness := (true, "e064a5f9718b69c43b9371dd1cee8ba9f737e05be764aea0a7d96920baefea98"), looks := true }, kinds := [], alts := [], laidByText := true, laidKinds := [.data, .data, .data, .sentinel, .sentinel], laidTests := true, laidLooks := .later }
def CodecStopsCardSaid : Prop := Claim7.holds Tryd.pinned (.plain (OpenSpec.ofChange codecStopsSpec)) codecStopsCard

/-- THE SECOND FORM's CARD OF 'lockagelaw06.CodecBack'. -/
def codecBackUptoCard : Claim7 := { stood := { row := codecBackUptoRow, standIns := [], harness := (true, "e064a5f9718b69c43b9371dd1cee8ba9f737e05be764aea0a7d96920baefea98"), looks := true }, kinds := [], alts := [], laidByText := true, laidKinds := [.data, .data, .data, .sentinel, .sentinel], laidTests := true, laidLooks := .later }
def CodecBackUptoCardSaid : Prop := Claim7.holds Tryd.pinned (.plain (OpenSpec.upto codecBackSpec)) codecBackUptoCard

/-- THE SECOND FORM's CARD OF 'lockagelaw06.CodecReads'. -/
def codecReadsUptoCard : Claim7 := { stood := { row := codecReadsUptoRow, standIns := [], harness := (true, "e064a5f9718b69c43b9371dd1cee8ba9f737e05be764aea0a7d96920baefea98"), looks := true }, kinds := [], alts := [], laidByText := true, laidKinds := [.data, .data, .data, .sentinel, .sentinel], laidTests := true, laidLooks := .later }
def CodecReadsUptoCardSaid : Prop := Claim7.holds Tryd.pinned (.plain (OpenSpec.upto codecReadsSpec)) codecReadsUptoCard

/-- THE SECOND FORM's CARD OF 'lockagelaw06.CodecOne'. -/
def codecOneUptoCard : Claim7 := { stood := { row := codecOneUptoRow, standIns := [], harness := (true, "e064a5f9718b69c43b9371dd1cee8ba9f737e05be764aea0a7d96920baefea98"), looks := true }, kinds := [], alts := [], laidByText := true, laidKinds := [.data, .data, .data, .sentinel, .sentinel], laidTests := true, laidLooks := .later }
def CodecOneUptoCardSaid : Prop := Claim7.holds Tryd.pinned (.plain (OpenSpec.upto codecOneSpec)) codecOneUptoCard

/-- THE SECOND FORM's CARD OF 'lockagelaw06.CodecNil'. -/
def codecNilUptoCard : Claim7 := { stood := { row := codecNilUptoRow, standIns := [], harness := (true, "e064a5f9718b69c43b9371dd1cee8ba9f737e05be764aea0a7d96920baefea98"), looks := true }, kinds := [], alts := [], laidByText := true, laidKinds := [.data, .data, .data, .sentinel, .sentinel], laidTests := true, laidLooks := .later }
def CodecNilUptoCardSaid : Prop := Claim7.holds Tryd.pinned (.plain (OpenSpec.upto codecNilSpec)) codecNilUptoCard

/-- THE SECOND FORM's CARD OF 'lockagelaw06.CodecStops'. -/
def codecStopsUptoCard : Claim7 := { stood := { row := codecStopsUptoRow, standIns := [], harness := (true, "e064a5f9718b69c43b9371dd1cee8ba9f737e05be764aea0a7d96920baefea98"), looks := true }, kinds := [], alts := [], laidByText := true, laidKinds := [.data, .data, .data, .sentinel, .sentinel], laidTests := true, laidLooks := .later }
def CodecStopsUptoCardSaid : Prop := Claim7.holds Tryd.pinned (.plain (OpenSpec.upto codecStopsSpec)) codecStopsUptoCard
end Rows
end Go.Proofs.YtnajbcbdncmbbaaDoor
