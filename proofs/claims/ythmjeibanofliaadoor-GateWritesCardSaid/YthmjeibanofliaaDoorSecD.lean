/-
  What the document's Read (package lockageref04) answers, given what its Print does. No conditions but a text's length.
-/
import Derived.Test.YthmjeibanofliaaDoorSecC
import Derived.Test.YthmjeibanofliaaDoorFirst
import Derived.Test.YthmjeibanofliaaDoorPhaseB
import Derived.Deep.RegionLaw
namespace Go.Proofs.YthmjeibanofliaaDoor
open Go.RowKit

theorem valB_one (s : ByteArray) (hs : s.size = 64) : valB (s.extract 18 19) = (s[18]'(by omega)).toNat := by
  have h : bl (s.extract 18 19) = [s[18]'(by omega)] := by
    rw [show (19 : Nat) = 18 + 1 from rfl, bl_mid]
    unfold mid
    have hl : 18 < (bl s).length := by rw [bl_len]; omega
    rw [List.drop_eq_getElem_cons hl, List.take_succ_cons, List.take_zero]
    rfl
  rw [valB, h]
  simp [valL]
abbrev pcV (p : Pc) : Value := .agg #[.int .u64 p.stamp, .int .i64 p.gen, .int .i64 p.no, .int .i64 p.idx, .int .i64 p.tot, .string p.data]

theorem cellH {w : World} {g : Nat} {cs : Array Value} {t : TypeId} {m : Nat × Nat} (h : w.heap[g]? = some (.cells cs t m)) (i : Nat) : w.cell? ⟨g, i, none⟩ = cs[i]? := by simp [World.cell?, h]
theorem freeH {w : World} {g : Nat} {cs : Array Value} {t : TypeId} (h : w.heap[g]? = some (.cells cs t (0, 0))) : ∀ i, w.frozen? ⟨g, i, none⟩ = false := fun i => by simp [World.frozen?, h]
theorem readP_size {s : ByteArray} (h : s.size ≠ 64) : readP s = none := by unfold readP; rw [if_neg (fun k => h k.1)]
theorem readP_long {s : ByteArray} (h : 37 < valB (s.extract 18 19)) : readP s = none := by unfold readP; rw [if_neg (fun k => by omega)]

end Go.Proofs.YthmjeibanofliaaDoor
