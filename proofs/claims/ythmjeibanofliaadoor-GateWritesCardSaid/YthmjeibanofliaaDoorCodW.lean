/-
  The program's Reader: Label. Conditions: how the Reader lies, what the package-level variables hold, a text's length.
-/
import Derived.Test.YthmjeibanofliaaDoorCodV
namespace Go.Proofs.YthmjeibanofliaaDoor
open Go.RowKit
theorem Only1.setNew {R B i : Nat} {w w' : World} (h : Only1 R w w') (hB : w.heap.size ≤ B) (v : Value) : Only1 R w (w'.setCell ⟨B, i, none⟩ v) := by
  have hs := Only1.set (R := B) (i := i) (w := w') v
  exact ⟨hs.os.trans h.os, hs.tape.trans h.tape, hs.output.trans h.output, Nat.le_trans h.size hs.size, fun j hj hn => (hs.block j (Nat.lt_of_lt_of_le hj h.size) (by omega)).trans (h.block j hj hn)⟩
theorem var_cells {w : World} {n : String} {g : Nat} {cs : Array Value} (hg : Tryd.prog.globalNamed n = some g) (h : w.var? Tryd.prog n = some cs) {ds : Array Value} {t : TypeId} {m : Nat × Nat} (hd : w.heap[g]? = some (.cells ds t m)) : ds = cs := by
  unfold World.var? at h
  simp only [hg, Option.bind_some, hd] at h
  exact Option.some.inj h
theorem VarsAt.only {w w' : World} (hV : VarsAt w) {R : Nat} {cs : Array Value} {t : TypeId} {m : Nat × Nat} (h : w.heap[R]? = some (.cells cs t m)) (h1 : ∀ tp p, cs ≠ #[.iface tp p]) (h2 : cs ≠ (Lib.pow10Tab.map fun z => Value.int .u64 z).toArray) (ho : Only1 R w w') : VarsAt w' := by
  obtain ⟨tb, ⟨tp1, p1, s1⟩, ⟨tp2, p2, r1⟩⟩ := hV
  have k1 : 3 ≠ R := fun e => by subst e; exact h2 (var_cells gTab tb h)
  have k2 : 1 ≠ R := fun e => by subst e; exact h1 _ _ (var_cells gSyn s1 h)
  have k3 : 2 ≠ R := fun e => by subst e; exact h1 _ _ (var_cells gRng r1 h)
  exact ⟨var_block gTab tb (ho.block _ (var_low gTab tb) k1), ⟨tp1, p1, var_block gSyn s1 (ho.block _ (var_low gSyn s1) k2)⟩, ⟨tp2, p2, var_block gRng r1 (ho.block _ (var_low gRng r1) k3)⟩⟩
theorem VarsAt.rd {w w' : World} {R : Nat} {s : ByteArray} {b : Bool} (hV : VarsAt w) (h : RdAt w R s b) (ho : Only1 R w w') : VarsAt w' :=
  hV.only h (fun tp p e => by have := congrArg Array.size e; simp at this) (fun e => by have := congrArg Array.size e; simp [Lib.pow10Tab] at this) ho
section
variable {w : World} {R : Nat} {s : ByteArray} {b : Bool}
/-- What a Label answers: nothing, where something was wrong. -/
def lbA (B : Bool) (v : Int) : Int := if B then 0 else v
end
end Go.Proofs.YthmjeibanofliaaDoor
