/-
  The law RosterTells, walked. No conditions but how the arguments lie in memory.
-/
import Derived.Test.YtnehcaefafdiaaaRosterTellsB
import Derived.Test.YtnehcaefafdiaaaRosterO
namespace Go.Proofs.Ytnehcaefafdiaaa
open Go.RowKit

theorem rosterTells_walk {A B : Option Addr} {n m c d : Nat} {lv st pt al au : Nat → Int} {w : World} (who part l s : Int) (hl : LabsAt w A n lv st) (_hc : n ≤ c) (ha : A = none → n = 0 ∧ c = 0) (hst : ∀ i, i < n → SetN (st i))
    (hp : PepsAt w B m pt al au) (hb : B = none → m = 0 ∧ d = 0) (hau : ∀ i, i < m → SetN (au i)) (_wl : (Lit.int .i64 l).wf = true) (ws : (Lit.int .u16 s).wf = true) :
    Calls Try.prog 3 #[.slice A n c, .slice B m d, .int .i64 who, .int .i64 part, .agg #[.int .i64 l, .int .u16 s]] w fun e w' => e = .returned (.bool true) ∧ Below w.heap.size w w' := by
  by_cases h : 50 < n ∨ 50 < m
  · exact tells_long h who part
  · by_cases hf : faultV n m lv st pt al = 0
    · exact tells_good hl hp ha hb (by omega) (by omega) hst hau (set_of_wf ws) hf who part
    · exact tells_bad hl hp ha hb (by omega) (by omega) hf who part

end Go.Proofs.Ytnehcaefafdiaaa
