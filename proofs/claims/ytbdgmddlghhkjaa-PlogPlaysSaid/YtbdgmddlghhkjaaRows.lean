/-
  No cell of these rows narrows 'for every input' (looked for: loops, veiled, ifaces, maps, wideKeys, modest, calm, conditions, laid).
  DERIVED. THE GIVEN ROWS OF THIS SEAT. 4 by the template 'for every input the law returns true; each argument reads behind the call as it read before'; 0 by the template 'total and deterministic' (their statements: YtbdgmddlghhkjaaTotals.lean).
  GIVEN WITH THE SEED: the statements are not yours to turn. If you find one false, say at which input.
  Laid BY PROGRAM, IN A SANDBOX (cutbox-rows.mjs): the forced cells as the released guide's own fill.sh prints them over the translation 814f95089f788057… (all of the seat's roots in one cut). By AI agents, Wed Nov 11 2026. No macro, syntax, notation, axiom, sorry.
-/
import Derived.Test.YtbdgmddlghhkjaaChecked
import GoSem.Claim
import GoSem.ClaimJoined
import GoSem.ClaimMapViews
import Derived.JoinedTies
import Derived.KernelRfl
namespace Go.Proofs.Ytbdgmddlghhkjaa
/- THE CELL 'sum', in the pinned program and in every row, IS THE sha256 OF THE DUMP (.gsa) THAT YtbdgmddlghhkjaaProg.lean LOADS. Nothing in Lean hashes anything: it is a label: what it is worth is what the hold of that sum in a sandbox is worth. -/
noncomputable def Try.pinned : Pinned := { name := "ytbdgmddlghhkjaa", sum := "814f95089f788057651f6e485e195320716a8b4a16d199561e8e9d4b0dad3879", checked := Try.checked }
namespace Rows
def none {H : Type} : Left H := { results := [], args := [] }

/-- 'lockagelaw05.PlogPlays': WHATEVER THE INPUT: true; the input reads as it did. -/
def plogPlaysSpec : ChangeSpec := { name := "plogPlays", fn := fun _ => fun
  | [d1, d2, d3] => { results := [.lit (.bool true)], args := [d1, d2, d3] }
  | _ => none }
def plogPlaysRow : OpenClaim := { program := "ytbdgmddlghhkjaa", sum := "814f95089f788057651f6e485e195320716a8b4a16d199561e8e9d4b0dad3879", func := "lockage/lockagelaw05.PlogPlays", spec := "plogPlays", unfollowed := true, recurses := true, apart := false }
def PlogPlaysSaid : Prop := plogPlaysRow.holds Try.pinned (OpenSpec.ofChange plogPlaysSpec)

/-- ITS FALSE NEIGHBOUR: 'it returns false'. Refute it at one input. -/
def plogPlaysWrong : ChangeSpec := { name := "plogPlays", fn := fun _ => fun
  | [d1, d2, d3] => { results := [.lit (.bool false)], args := [d1, d2, d3] }
  | _ => none }
def PlogPlaysWrongFalsely : Prop := plogPlaysRow.holds Try.pinned (OpenSpec.ofChange plogPlaysWrong)

/-- 'lockagelaw05.PlogCrashes': WHATEVER THE INPUT: true; the input reads as it did. -/
def plogCrashesSpec : ChangeSpec := { name := "plogCrashes", fn := fun _ => fun
  | [d1, d2] => { results := [.lit (.bool true)], args := [d1, d2] }
  | _ => none }
def plogCrashesRow : OpenClaim := { program := "ytbdgmddlghhkjaa", sum := "814f95089f788057651f6e485e195320716a8b4a16d199561e8e9d4b0dad3879", func := "lockage/lockagelaw05.PlogCrashes", spec := "plogCrashes", unfollowed := true, recurses := true, apart := false }
def PlogCrashesSaid : Prop := plogCrashesRow.holds Try.pinned (OpenSpec.ofChange plogCrashesSpec)

/-- ITS FALSE NEIGHBOUR: 'it returns false'. Refute it at one input. -/
def plogCrashesWrong : ChangeSpec := { name := "plogCrashes", fn := fun _ => fun
  | [d1, d2] => { results := [.lit (.bool false)], args := [d1, d2] }
  | _ => none }
def PlogCrashesWrongFalsely : Prop := plogCrashesRow.holds Try.pinned (OpenSpec.ofChange plogCrashesWrong)

/-- 'lockagelaw05.PlogNil': WHATEVER THE INPUT: true; the input reads as it did. -/
def plogNilSpec : ChangeSpec := { name := "plogNil", fn := fun _ => fun
  | [d1, d2, d3] => { results := [.lit (.bool true)], args := [d1, d2, d3] }
  | _ => none }
def plogNilRow : OpenClaim := { program := "ytbdgmddlghhkjaa", sum := "814f95089f788057651f6e485e195320716a8b4a16d199561e8e9d4b0dad3879", func := "lockage/lockagelaw05.PlogNil", spec := "plogNil", unfollowed := true, recurses := true, apart := false }
def PlogNilSaid : Prop := plogNilRow.holds Try.pinned (OpenSpec.ofChange plogNilSpec)

/-- ITS FALSE NEIGHBOUR: 'it returns false'. Refute it at one input. -/
def plogNilWrong : ChangeSpec := { name := "plogNil", fn := fun _ => fun
  | [d1, d2, d3] => { results := [.lit (.bool false)], args := [d1, d2, d3] }
  | _ => none }
def PlogNilWrongFalsely : Prop := plogNilRow.holds Try.pinned (OpenSpec.ofChange plogNilWrong)

/-- 'lockagelaw05.PlogGrows': WHATEVER THE INPUT: true; the input reads as it did. -/
def plogGrowsSpec : ChangeSpec := { name := "plogGrows", fn := fun _ => fun
  | [d] => { results := [.lit (.bool true)], args := [d] }
  | _ => none }
def plogGrowsRow : OpenClaim := { program := "ytbdgmddlghhkjaa", sum := "814f95089f788057651f6e485e195320716a8b4a16d199561e8e9d4b0dad3879", func := "lockage/lockagelaw05.PlogGrows", spec := "plogGrows", unfollowed := true, recurses := true, apart := false }
def PlogGrowsSaid : Prop := plogGrowsRow.holds Try.pinned (OpenSpec.ofChange plogGrowsSpec)

/-- ITS FALSE NEIGHBOUR: 'it returns false'. Refute it at one input. -/
def plogGrowsWrong : ChangeSpec := { name := "plogGrows", fn := fun _ => fun
  | [d] => { results := [.lit (.bool false)], args := [d] }
  | _ => none }
def PlogGrowsWrongFalsely : Prop := plogGrowsRow.holds Try.pinned (OpenSpec.ofChange plogGrowsWrong)

/- THE SECOND FORM. 'bulk': how many values and letters a reading holds, each counted each time it is reached (what is shared counts as often as it is met; a slice's spare places count too). A statement '..UptoSaid' is the law's where the arguments, and the package variables that the reading takes, are together of bulk at most 1048576: NARROWER than '..Said'. Prove '..Said' where nothing that the law and all that it calls make is longer than what came in: it says more and counts as full. Else prove '..UptoSaid'. A law counts once. -/
mutual
def uptoBulk {H : Type} : DataW H → Nat
  | .lit (.string bytes) => bytes.length + 1
  | .lit _ => 1
  | .nil => 1
  | .ptr d => uptoBulk d + 1
  | .slice elems spare => uptoBulkAll elems + uptoBulkAll spare + 1
  | .agg parts => uptoBulkAll parts + 1
  | .iface _ d => uptoBulk d + 1
  | .map entries => uptoBulkEntries entries + 1
  | .held _ => 1
def uptoBulkAll {H : Type} : List (DataW H) → Nat
  | [] => 0
  | d :: r => uptoBulk d + uptoBulkAll r
def uptoBulkEntries {H : Type} : List (Lit × DataW H) → Nat
  | [] => 0
  | x :: r => uptoBulkEntry x + uptoBulkEntries r
def uptoBulkEntry {H : Type} : Lit × DataW H → Nat
  | (.string bytes, d) => bytes.length + uptoBulk d + 1
  | (_, d) => uptoBulk d + 1
 end
def uptoSmall : (H : Type) → List (DataW H) → Bool := fun _ ds => decide (uptoBulkAll ds ≤ 1048576)
def OpenSpec.upto (s : _root_.Go.ChangeSpec) : _root_.Go.OpenSpec := { _root_.Go.OpenSpec.ofChange s with cond := some uptoSmall }

/-- 'lockagelaw05.PlogPlays', WHERE WHAT IT READS IS OF BULK AT MOST 1048576: true; the input reads as it did. -/
def plogPlaysUptoRow : OpenClaim := { program := "ytbdgmddlghhkjaa", sum := "814f95089f788057651f6e485e195320716a8b4a16d199561e8e9d4b0dad3879", func := "lockage/lockagelaw05.PlogPlays", spec := "plogPlays", unfollowed := true, recurses := true, apart := false, narrowed := true }
def PlogPlaysUptoSaid : Prop := plogPlaysUptoRow.holds Try.pinned (OpenSpec.upto plogPlaysSpec)

/-- 'lockagelaw05.PlogCrashes', WHERE WHAT IT READS IS OF BULK AT MOST 1048576: true; the input reads as it did. -/
def plogCrashesUptoRow : OpenClaim := { program := "ytbdgmddlghhkjaa", sum := "814f95089f788057651f6e485e195320716a8b4a16d199561e8e9d4b0dad3879", func := "lockage/lockagelaw05.PlogCrashes", spec := "plogCrashes", unfollowed := true, recurses := true, apart := false, narrowed := true }
def PlogCrashesUptoSaid : Prop := plogCrashesUptoRow.holds Try.pinned (OpenSpec.upto plogCrashesSpec)

/-- 'lockagelaw05.PlogNil', WHERE WHAT IT READS IS OF BULK AT MOST 1048576: true; the input reads as it did. -/
def plogNilUptoRow : OpenClaim := { program := "ytbdgmddlghhkjaa", sum := "814f95089f788057651f6e485e195320716a8b4a16d199561e8e9d4b0dad3879", func := "lockage/lockagelaw05.PlogNil", spec := "plogNil", unfollowed := true, recurses := true, apart := false, narrowed := true }
def PlogNilUptoSaid : Prop := plogNilUptoRow.holds Try.pinned (OpenSpec.upto plogNilSpec)

/-- 'lockagelaw05.PlogGrows', WHERE WHAT IT READS IS OF BULK AT MOST 1048576: true; the input reads as it did. -/
def plogGrowsUptoRow : OpenClaim := { program := "ytbdgmddlghhkjaa", sum := "814f95089f788057651f6e485e195320716a8b4a16d199561e8e9d4b0dad3879", func := "lockage/lockagelaw05.PlogGrows", spec := "plogGrows", unfollowed := true, recurses := true, apart := false, narrowed := true }
def PlogGrowsUptoSaid : Prop := plogGrowsUptoRow.holds Try.pinned (OpenSpec.upto plogGrowsSpec)

end Rows
end Go.Proofs.Ytbdgmddlghhkjaa
