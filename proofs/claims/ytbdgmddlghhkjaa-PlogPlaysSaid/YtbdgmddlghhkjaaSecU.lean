/-
  What the program's Print (package sector) answers. No conditions but the numbers' types.
-/
import Derived.Test.YtbdgmddlghhkjaaSecT
import Derived.Test.YtbdgmddlghhkjaaSecG
namespace Go.Proofs.Ytbdgmddlghhkjaa
open Go.RowKit

theorem conv_row {w : World} {g cap : Nat} {s : ByteArray} {t : TypeId} {fr : Nat × Nat} (h : w.heap[g]? = some (.cells (bytesV s).toArray t fr)) (n : Nat) (hn : n = s.size) : (convert 61 9 (.slice (some ⟨g, 0, none⟩) n cap)).run Try.prog w = .ok (.string s) w := by
  subst hn
  have := run_convert_bytes_back (P := Try.prog) w 61 9 5 ⟨g, 0, none⟩ cap (bl s) Try.underlying61 Try.underlying5 Try.underlying9 (fun j hj => by
    rw [Addr.add_lit, Nat.zero_add, cellH h, List.getElem?_toArray, bytesV_bl, cellsB, List.getElem?_map, List.getElem?_eq_getElem hj]
    rfl)
  rw [bl_len] at this
  rw [this]
  exact congrArg (fun x => Result.ok (Value.string x) w) (ofL_bl s)

end Go.Proofs.Ytbdgmddlghhkjaa
