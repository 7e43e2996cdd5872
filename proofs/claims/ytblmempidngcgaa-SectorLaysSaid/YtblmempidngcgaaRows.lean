/-
  No cell of these rows narrows 'for every input' (looked for: loops, veiled, ifaces, maps, wideKeys, modest, calm, conditions, laid).
  DERIVED. THE GIVEN ROWS OF THIS SEAT. 4 by the template 'for every input the law returns true; each argument reads behind the call as it read before'; 0 by the template 'total and deterministic' (their statements: YtblmempidngcgaaTotals.lean).
  GIVEN WITH THE SEED: the statements are not yours to turn. If you find one false, say at which input.
  Laid BY PROGRAM, IN A SANDBOX (cutbox-rows.mjs): the forced cells as the released guide's own fill.sh prints them over the translation 6865d724bf8e6a03… (all of the seat's roots in one cut). By AI agents, Wed Nov 11 2026. No macro, syntax, notation, axiom, sorry.
-/
import Derived.Test.YtblmempidngcgaaChecked
import GoSem.Claim
import GoSem.ClaimJoined
import GoSem.ClaimMapViews
import Derived.JoinedTies
import Derived.KernelRfl
namespace Go.Proofs.Ytblmempidngcgaa
/- THE CELL 'sum', in the pinned program and in every row, IS THE sha256 OF THE DUMP (.gsa) THAT YtblmempidngcgaaProg.lean LOADS. Nothing in Lean hashes anything: it is a label: what it is worth is what the hold of that sum in a sandbox is worth. -/
noncomputable def Try.pinned : Pinned := { name := "ytblmempidngcgaa", sum := "6865d724bf8e6a03fc91d89047b845b5dff0bfb1bbf532fd4cff8a9e2a5bc8e0", checked := Try.checked }
namespace Rows
def none {H : Type} : Left H := { results := [], args := [] }

/-- 'lockagelaw04.SectorPieces': WHATEVER THE INPUT: true; the input reads as it did. -/
def sectorPiecesSpec : ChangeSpec := { name := "sectorPieces", fn := fun _ => fun
  | [d1, d2] => { results := [.lit (.bool true)], args := [d1, d2] }
  | _ => none }
def sectorPiecesRow : OpenClaim := { program := "ytblmempidngcgaa", sum := "6865d724bf8e6a03fc91d89047b845b5dff0bfb1bbf532fd4cff8a9e2a5bc8e0", func := "lockage/lockagelaw04.SectorPieces", spec := "sectorPieces", unfollowed := true, recurses := true, apart := false }
def SectorPiecesSaid : Prop := sectorPiecesRow.holds Try.pinned (OpenSpec.ofChange sectorPiecesSpec)

/-- ITS FALSE NEIGHBOUR: 'it returns false'. Refute it at one input. -/
def sectorPiecesWrong : ChangeSpec := { name := "sectorPieces", fn := fun _ => fun
  | [d1, d2] => { results := [.lit (.bool false)], args := [d1, d2] }
  | _ => none }
def SectorPiecesWrongFalsely : Prop := sectorPiecesRow.holds Try.pinned (OpenSpec.ofChange sectorPiecesWrong)

/-- 'lockagelaw04.SectorTorn': WHATEVER THE INPUT: true; the input reads as it did. -/
def sectorTornSpec : ChangeSpec := { name := "sectorTorn", fn := fun _ => fun
  | [d1, d2, d3] => { results := [.lit (.bool true)], args := [d1, d2, d3] }
  | _ => none }
def sectorTornRow : OpenClaim := { program := "ytblmempidngcgaa", sum := "6865d724bf8e6a03fc91d89047b845b5dff0bfb1bbf532fd4cff8a9e2a5bc8e0", func := "lockage/lockagelaw04.SectorTorn", spec := "sectorTorn", unfollowed := true, recurses := true, apart := false }
def SectorTornSaid : Prop := sectorTornRow.holds Try.pinned (OpenSpec.ofChange sectorTornSpec)

/-- ITS FALSE NEIGHBOUR: 'it returns false'. Refute it at one input. -/
def sectorTornWrong : ChangeSpec := { name := "sectorTorn", fn := fun _ => fun
  | [d1, d2, d3] => { results := [.lit (.bool false)], args := [d1, d2, d3] }
  | _ => none }
def SectorTornWrongFalsely : Prop := sectorTornRow.holds Try.pinned (OpenSpec.ofChange sectorTornWrong)

/-- 'lockagelaw04.SectorLays': WHATEVER THE INPUT: true; the input reads as it did. -/
def sectorLaysSpec : ChangeSpec := { name := "sectorLays", fn := fun _ => fun
  | [d1, d2, d3, d4, d5, d6] => { results := [.lit (.bool true)], args := [d1, d2, d3, d4, d5, d6] }
  | _ => none }
def sectorLaysRow : OpenClaim := { program := "ytblmempidngcgaa", sum := "6865d724bf8e6a03fc91d89047b845b5dff0bfb1bbf532fd4cff8a9e2a5bc8e0", func := "lockage/lockagelaw04.SectorLays", spec := "sectorLays", unfollowed := true, recurses := true, apart := false }
def SectorLaysSaid : Prop := sectorLaysRow.holds Try.pinned (OpenSpec.ofChange sectorLaysSpec)

/-- ITS FALSE NEIGHBOUR: 'it returns false'. Refute it at one input. -/
def sectorLaysWrong : ChangeSpec := { name := "sectorLays", fn := fun _ => fun
  | [d1, d2, d3, d4, d5, d6] => { results := [.lit (.bool false)], args := [d1, d2, d3, d4, d5, d6] }
  | _ => none }
def SectorLaysWrongFalsely : Prop := sectorLaysRow.holds Try.pinned (OpenSpec.ofChange sectorLaysWrong)

/-- 'lockagelaw04.SectorOne': WHATEVER THE INPUT: true; the input reads as it did. -/
def sectorOneSpec : ChangeSpec := { name := "sectorOne", fn := fun _ => fun
  | [d1, d2, d3] => { results := [.lit (.bool true)], args := [d1, d2, d3] }
  | _ => none }
def sectorOneRow : OpenClaim := { program := "ytblmempidngcgaa", sum := "6865d724bf8e6a03fc91d89047b845b5dff0bfb1bbf532fd4cff8a9e2a5bc8e0", func := "lockage/lockagelaw04.SectorOne", spec := "sectorOne", unfollowed := true, recurses := true, apart := false }
def SectorOneSaid : Prop := sectorOneRow.holds Try.pinned (OpenSpec.ofChange sectorOneSpec)

/-- ITS FALSE NEIGHBOUR: 'it returns false'. Refute it at one input. -/
def sectorOneWrong : ChangeSpec := { name := "sectorOne", fn := fun _ => fun
  | [d1, d2, d3] => { results := [.lit (.bool false)], args := [d1, d2, d3] }
  | _ => none }
def SectorOneWrongFalsely : Prop := sectorOneRow.holds Try.pinned (OpenSpec.ofChange sectorOneWrong)

/- THE SECOND FORM. 'bulk': how many values and letters a reading holds, each counted each time it is reached (what is shared counts as often as it is met; a slice's spare places count too). A statement '..UptoSaid' is the law's where the arguments, and the package variables that the reading takes, are together of bulk at most 1048576: NARROWER than '..Said'. Prove '..Said' where nothing that the law and all that it calls make is longer than what came in: it says more and counts as full. Else prove '..UptoSaid'. A law counts once. -/
mutual
def uptoBulk {H : Type} : DataW H → Nat
  | .lit (.string bytes) => bytes.length + 1
  | .lit _ => 1
  | .nil => 1
  | .ptr d => uptoBulk d + 1
  | .slice elems spare => uptoBulkAll elems + uptoBulkAll spare + 1
  | .agg parts => uptoBulkAll parts + 1
  | .iface _ d => uptoBulk d + 1
  | .map entries => uptoBulkEntries entries + 1
  | .held _ => 1
def uptoBulkAll {H : Type} : List (DataW H) → Nat
  | [] => 0
  | d :: r => uptoBulk d + uptoBulkAll r
def uptoBulkEntries {H : Type} : List (Lit × DataW H) → Nat
  | [] => 0
  | x :: r => uptoBulkEntry x + uptoBulkEntries r
def uptoBulkEntry {H : Type} : Lit × DataW H → Nat
  | (.string bytes, d) => bytes.length + uptoBulk d + 1
  | (_, d) => uptoBulk d + 1
 end
def uptoSmall : (H : Type) → List (DataW H) → Bool := fun _ ds => decide (uptoBulkAll ds ≤ 1048576)
def OpenSpec.upto (s : _root_.Go.ChangeSpec) : _root_.Go.OpenSpec := { _root_.Go.OpenSpec.ofChange s with cond := some uptoSmall }

/-- 'lockagelaw04.SectorPieces', WHERE WHAT IT READS IS OF BULK AT MOST 1048576: true; the input reads as it did. -/
def sectorPiecesUptoRow : OpenClaim := { program := "ytblmempidngcgaa", sum := "6865d724bf8e6a03fc91d89047b845b5dff0bfb1bbf532fd4cff8a9e2a5bc8e0", func := "lockage/lockagelaw04.SectorPieces", spec := "sectorPieces", unfollowed := true, recurses := true, apart := false, narrowed := true }
def SectorPiecesUptoSaid : Prop := sectorPiecesUptoRow.holds Try.pinned (OpenSpec.upto sectorPiecesSpec)

/-- 'lockagelaw04.SectorTorn', WHERE WHAT IT READS IS OF BULK AT MOST 1048576: true; the input reads as it did. -/
def sectorTornUptoRow : OpenClaim := { program := "ytblmempidngcgaa", sum := "6865d724bf8e6a03fc91d89047b845b5dff0bfb1bbf532fd4cff8a9e2a5bc8e0", func := "lockage/lockagelaw04.SectorTorn", spec := "sectorTorn", unfollowed := true, recurses := true, apart := false, narrowed := true }
def SectorTornUptoSaid : Prop := sectorTornUptoRow.holds Try.pinned (OpenSpec.upto sectorTornSpec)

/-- 'lockagelaw04.SectorLays', WHERE WHAT IT READS IS OF BULK AT MOST 1048576: true; the input reads as it did. -/
def sectorLaysUptoRow : OpenClaim := { program := "ytblmempidngcgaa", sum := "6865d724bf8e6a03fc91d89047b845b5dff0bfb1bbf532fd4cff8a9e2a5bc8e0", func := "lockage/lockagelaw04.SectorLays", spec := "sectorLays", unfollowed := true, recurses := true, apart := false, narrowed := true }
def SectorLaysUptoSaid : Prop := sectorLaysUptoRow.holds Try.pinned (OpenSpec.upto sectorLaysSpec)

/-- 'lockagelaw04.SectorOne', WHERE WHAT IT READS IS OF BULK AT MOST 1048576: true; the input reads as it did. -/
def sectorOneUptoRow : OpenClaim := { program := "ytblmempidngcgaa", sum := "6865d724bf8e6a03fc91d89047b845b5dff0bfb1bbf532fd4cff8a9e2a5bc8e0", func := "lockage/lockagelaw04.SectorOne", spec := "sectorOne", unfollowed := true, recurses := true, apart := false, narrowed := true }
def SectorOneUptoSaid : Prop := sectorOneUptoRow.holds Try.pinned (OpenSpec.upto sectorOneSpec)

end Rows
end Go.Proofs.Ytblmempidngcgaa
