/-
  From what the row lists of the library's one variable, a type's handle, to what the walks ask of it; a world in which it holds that.
-/
import Derived.Test.YtcddbpdebklhnaaGreatDoorRows
import Derived.Test.YtcddbpdebklhnaaGreatDoorLexE
import Derived.LaidLaws
import Derived.LaidHandle
import Derived.Stop.Joined
import Derived.ProofKit
namespace Go.Proofs.YtcddbpdebklhnaaGreatDoor
open Go.RowKit

/-- What the row lists. -/
def laidE : List (String × DataW Unit) := [("errors.errorType", Rows.laid_errors_errorType)]
theorem data_ofE : (laidE.filter fun x => x.2.handleName?.isNone) = [] := by kernel_rfl
theorem handle_ofE : (laidE.filter fun x => x.2.handleName?.isSome) = laidE := by kernel_rfl
theorem gE : Tryz.prog.globalNamed "errors.errorType" = some 0 := by kernel_rfl
theorem tE : (Tryz.prog.cutTypes.find? (·.1 == "internal/reflectlite.rtype")).map (·.2) = some 103 := by kernel_rfl
theorem oneE : ((List.range Tryz.prog.types.size).filter fun t => Tryz.prog.rowNamed t [101, 114, 114, 111, 114]) = [35] := by kernel_rfl
theorem hE : typeHandle Tryz.prog 35 = .pointer (some ⟨1, 35, none⟩) := by kernel_rfl
theorem varE_of_laid {W : World} (h : laidMetH Tryz.prog laidE W) : VarE W := by
  have h' : handlesMet Tryz.prog laidE W := by
    unfold laidMetH at h
    rw [data_ofE, handle_ofE] at h
    exact h.2
  obtain ⟨name, u, ty, e1, e2, e3, e4, e5⟩ := h' _ (List.mem_singleton.2 rfl)
  have en : name = [101, 114, 114, 111, 114] := (Option.some.inj e1).symm
  subst en
  obtain rfl := Option.some.inj (tE.symm.trans e2)
  have hm : ty ∈ (List.range Tryz.prog.types.size).filter fun t => Tryz.prog.rowNamed t [101, 114, 114, 111, 114] := List.mem_filter.2 ⟨List.mem_range.2 e3, e4⟩
  rw [oneE] at hm
  obtain rfl := List.mem_singleton.1 hm
  rw [hE] at e5
  have := World.var?_cell gE e5 0
  exact (by simpa using this : W.cell? ⟨0, 0, none⟩ = _)
/-- The settled world, the variable as its initialiser lays it. -/
noncomputable def laidWorldE (os : Os) : World :=
  let w0 := World.settled Tryz.prog os
  { w0 with heap := w0.heap.modify 0 fun
    | .cells _ t frozen => .cells #[.iface 103 (.agg #[.pointer (some ⟨1, 35, none⟩)])] t frozen
    | o => o }
set_option maxRecDepth 1000000 in
theorem laid_metE (os : Os) (args : Array Value) : laidMetH Tryz.prog laidE ((laidWorldE os).forCall (fun _ _ => 0) ⟨#[], args, []⟩).memory := by
  refine laidMetH_of_parts ?_ ?_
  · rw [data_ofE]
    exact ⟨[], by first | exact True.intro | exact rfl | exact ⟨rfl, rfl⟩ | constructor, List.nodup_nil, fun _ _ h => absurd h List.not_mem_nil⟩
  · rw [handle_ofE]
    kernel_rfl
end Go.Proofs.YtcddbpdebklhnaaGreatDoor
