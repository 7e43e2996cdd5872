/-
  What the laws of layer 4 ask of the program's sector: each call does what the document's does. (A bundle of contracts; Next is asked for elsewhere.) SectorTorn, walked over it, given what awake answers.
-/
import Derived.Test.YthmjeibanofliaaDoorSecD
import Derived.Outline
namespace Go.Proofs.YthmjeibanofliaaDoor
open Go.RowKit

/-- Its numbers are such as the types hold. -/
structure Pc.In (p : Pc) : Prop where
  fits : p.Fits
  g : -9223372036854775808 ≤ p.gen ∧ p.gen ≤ 9223372036854775807
  n : -9223372036854775808 ≤ p.no ∧ p.no ≤ 9223372036854775807
  i : -9223372036854775808 ≤ p.idx ∧ p.idx ≤ 9223372036854775807
  t : -9223372036854775808 ≤ p.tot ∧ p.tot ≤ 9223372036854775807
  d : p.data.size ≤ maxLen

theorem below_step {w a b : World} (h : Below w.heap.size w a) (k : Below a.heap.size a b) : Below w.heap.size w b := h.trans (k.mono h.size)

theorem cut_count (n : Int) : ∃ m : Nat, wrap64 (8 + wrap64 ((IntKind.u64.wrap n).tmod 49)) = m ∧ 8 ≤ m ∧ m ≤ 56 := by
  have h0 : 0 ≤ IntKind.u64.wrap n := by rw [IntKind.wrap_u64]; omega
  have e : (IntKind.u64.wrap n).tmod 49 = IntKind.u64.wrap n % 49 := Int.tmod_eq_emod_of_nonneg h0
  rw [e]
  generalize IntKind.u64.wrap n = z at h0
  refine ⟨(8 + z % 49).toNat, ?_, by omega, by omega⟩
  unfold wrap64
  omega

end Go.Proofs.YthmjeibanofliaaDoor
