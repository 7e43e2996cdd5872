/-
  No cell of these rows narrows 'for every input' (looked for: loops, veiled, ifaces, maps, wideKeys, modest, calm, conditions, laid).
  DERIVED. THE GIVEN ROWS OF THIS SEAT. 3 by the template 'for every input the law returns true; each argument reads behind the call as it read before'; 0 by the template 'total and deterministic' (their statements: YtbenehdikigbaaaTotals.lean).
  GIVEN WITH THE SEED: the statements are not yours to turn. If you find one false, say at which input.
  Laid BY PROGRAM, IN A SANDBOX (cutbox-rows.mjs): the forced cells as the released guide's own fill.sh prints them over the translation 08f838db37311cde… (all of the seat's roots in one cut). By AI agents, Wed Nov 11 2026. No macro, syntax, notation, axiom, sorry.
-/
import Derived.Test.YtbenehdikigbaaaChecked
import GoSem.Claim
import GoSem.ClaimJoined
import GoSem.ClaimMapViews
import Derived.JoinedTies
import Derived.KernelRfl
namespace Go.Proofs.Ytbenehdikigbaaa
/- THE CELL 'sum', in the pinned program and in every row, IS THE sha256 OF THE DUMP (.gsa) THAT YtbenehdikigbaaaProg.lean LOADS. Nothing in Lean hashes anything: it is a label: what it is worth is what the hold of that sum in a sandbox is worth. -/
noncomputable def Try.pinned : Pinned := { name := "ytbenehdikigbaaa", sum := "08f838db37311cde980db72621a2b5ea98253edf91479c3d61392b414947bbd9", checked := Try.checked }
namespace Rows
def none {H : Type} : Left H := { results := [], args := [] }

/-- 'lockagelaw11.LeaseSettles': WHATEVER THE INPUT: true; the input reads as it did. -/
def leaseSettlesSpec : ChangeSpec := { name := "leaseSettles", fn := fun _ => fun
  | [d1, d2, d3, d4] => { results := [.lit (.bool true)], args := [d1, d2, d3, d4] }
  | _ => none }
def leaseSettlesRow : OpenClaim := { program := "ytbenehdikigbaaa", sum := "08f838db37311cde980db72621a2b5ea98253edf91479c3d61392b414947bbd9", func := "lockage/lockagelaw11.LeaseSettles", spec := "leaseSettles", apart := false }
def LeaseSettlesSaid : Prop := leaseSettlesRow.holds Try.pinned (OpenSpec.ofChange leaseSettlesSpec)

/-- ITS FALSE NEIGHBOUR: 'it returns false'. Refute it at one input. -/
def leaseSettlesWrong : ChangeSpec := { name := "leaseSettles", fn := fun _ => fun
  | [d1, d2, d3, d4] => { results := [.lit (.bool false)], args := [d1, d2, d3, d4] }
  | _ => none }
def LeaseSettlesWrongFalsely : Prop := leaseSettlesRow.holds Try.pinned (OpenSpec.ofChange leaseSettlesWrong)

/-- 'lockagelaw11.LeaseTries': WHATEVER THE INPUT: true; the input reads as it did. -/
def leaseTriesSpec : ChangeSpec := { name := "leaseTries", fn := fun _ => fun
  | [d1, d2] => { results := [.lit (.bool true)], args := [d1, d2] }
  | _ => none }
def leaseTriesRow : OpenClaim := { program := "ytbenehdikigbaaa", sum := "08f838db37311cde980db72621a2b5ea98253edf91479c3d61392b414947bbd9", func := "lockage/lockagelaw11.LeaseTries", spec := "leaseTries", apart := false }
def LeaseTriesSaid : Prop := leaseTriesRow.holds Try.pinned (OpenSpec.ofChange leaseTriesSpec)

/-- ITS FALSE NEIGHBOUR: 'it returns false'. Refute it at one input. -/
def leaseTriesWrong : ChangeSpec := { name := "leaseTries", fn := fun _ => fun
  | [d1, d2] => { results := [.lit (.bool false)], args := [d1, d2] }
  | _ => none }
def LeaseTriesWrongFalsely : Prop := leaseTriesRow.holds Try.pinned (OpenSpec.ofChange leaseTriesWrong)

/-- 'lockagelaw11.LeaseHolds': WHATEVER THE INPUT: true; the input reads as it did. -/
def leaseHoldsSpec : ChangeSpec := { name := "leaseHolds", fn := fun _ => fun
  | [d1, d2, d3, d4, d5] => { results := [.lit (.bool true)], args := [d1, d2, d3, d4, d5] }
  | _ => none }
def leaseHoldsRow : OpenClaim := { program := "ytbenehdikigbaaa", sum := "08f838db37311cde980db72621a2b5ea98253edf91479c3d61392b414947bbd9", func := "lockage/lockagelaw11.LeaseHolds", spec := "leaseHolds", apart := false }
def LeaseHoldsSaid : Prop := leaseHoldsRow.holds Try.pinned (OpenSpec.ofChange leaseHoldsSpec)

/-- ITS FALSE NEIGHBOUR: 'it returns false'. Refute it at one input. -/
def leaseHoldsWrong : ChangeSpec := { name := "leaseHolds", fn := fun _ => fun
  | [d1, d2, d3, d4, d5] => { results := [.lit (.bool false)], args := [d1, d2, d3, d4, d5] }
  | _ => none }
def LeaseHoldsWrongFalsely : Prop := leaseHoldsRow.holds Try.pinned (OpenSpec.ofChange leaseHoldsWrong)

/- THE SECOND FORM. 'bulk': how many values and letters a reading holds, each counted each time it is reached (what is shared counts as often as it is met; a slice's spare places count too). A statement '..UptoSaid' is the law's where the arguments, and the package variables that the reading takes, are together of bulk at most 1048576: NARROWER than '..Said'. Prove '..Said' where nothing that the law and all that it calls make is longer than what came in: it says more and counts as full. Else prove '..UptoSaid'. A law counts once. -/
mutual
def uptoBulk {H : Type} : DataW H → Nat
  | .lit (.string bytes) => bytes.length + 1
  | .lit _ => 1
  | .nil => 1
  | .ptr d => uptoBulk d + 1
  | .slice elems spare => uptoBulkAll elems + uptoBulkAll spare + 1
  | .agg parts => uptoBulkAll parts + 1
  | .iface _ d => uptoBulk d + 1
  | .map entries => uptoBulkEntries entries + 1
  | .held _ => 1
def uptoBulkAll {H : Type} : List (DataW H) → Nat
  | [] => 0
  | d :: r => uptoBulk d + uptoBulkAll r
def uptoBulkEntries {H : Type} : List (Lit × DataW H) → Nat
  | [] => 0
  | x :: r => uptoBulkEntry x + uptoBulkEntries r
def uptoBulkEntry {H : Type} : Lit × DataW H → Nat
  | (.string bytes, d) => bytes.length + uptoBulk d + 1
  | (_, d) => uptoBulk d + 1
 end
def uptoSmall : (H : Type) → List (DataW H) → Bool := fun _ ds => decide (uptoBulkAll ds ≤ 1048576)
def OpenSpec.upto (s : _root_.Go.ChangeSpec) : _root_.Go.OpenSpec := { _root_.Go.OpenSpec.ofChange s with cond := some uptoSmall }

/-- 'lockagelaw11.LeaseSettles', WHERE WHAT IT READS IS OF BULK AT MOST 1048576: true; the input reads as it did. -/
def leaseSettlesUptoRow : OpenClaim := { program := "ytbenehdikigbaaa", sum := "08f838db37311cde980db72621a2b5ea98253edf91479c3d61392b414947bbd9", func := "lockage/lockagelaw11.LeaseSettles", spec := "leaseSettles", apart := false, narrowed := true }
def LeaseSettlesUptoSaid : Prop := leaseSettlesUptoRow.holds Try.pinned (OpenSpec.upto leaseSettlesSpec)

/-- 'lockagelaw11.LeaseTries', WHERE WHAT IT READS IS OF BULK AT MOST 1048576: true; the input reads as it did. -/
def leaseTriesUptoRow : OpenClaim := { program := "ytbenehdikigbaaa", sum := "08f838db37311cde980db72621a2b5ea98253edf91479c3d61392b414947bbd9", func := "lockage/lockagelaw11.LeaseTries", spec := "leaseTries", apart := false, narrowed := true }
def LeaseTriesUptoSaid : Prop := leaseTriesUptoRow.holds Try.pinned (OpenSpec.upto leaseTriesSpec)

/-- 'lockagelaw11.LeaseHolds', WHERE WHAT IT READS IS OF BULK AT MOST 1048576: true; the input reads as it did. -/
def leaseHoldsUptoRow : OpenClaim := { program := "ytbenehdikigbaaa", sum := "08f838db37311cde980db72621a2b5ea98253edf91479c3d61392b414947bbd9", func := "lockage/lockagelaw11.LeaseHolds", spec := "leaseHolds", apart := false, narrowed := true }
def LeaseHoldsUptoSaid : Prop := leaseHoldsUptoRow.holds Try.pinned (OpenSpec.upto leaseHoldsSpec)

end Rows
end Go.Proofs.Ytbenehdikigbaaa
