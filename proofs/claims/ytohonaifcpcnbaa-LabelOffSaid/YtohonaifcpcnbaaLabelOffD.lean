/-
  The law LabelOff, walked, for any three labels. No conditions but that the numbers fit their kinds.
-/
import Derived.Test.YtohonaifcpcnbaaLabelOffB
import Derived.Test.YtohonaifcpcnbaaLabelOffC
import Derived.OpenShut
namespace Go.Proofs.Ytohonaifcpcnbaa
open Go.RowKit

theorem set_of_wf {s : Int} (h : (Lit.int .u16 s).wf = true) : SetN s := by
  have := bounds_u16 h
  exact ⟨this.1, by omega⟩

theorem labelOff_walk (l s m t n u : Int) (_w0 : (Lit.int .i64 l).wf = true) (w1 : (Lit.int .u16 s).wf = true) (_w2 : (Lit.int .i64 m).wf = true) (w3 : (Lit.int .u16 t).wf = true) (_w4 : (Lit.int .i64 n).wf = true) (w5 : (Lit.int .u16 u).wf = true) (w : World) :
    Calls Try.prog 6 #[.agg #[.int .i64 l, .int .u16 s], .agg #[.int .i64 m, .int .u16 t], .agg #[.int .i64 n, .int .u16 u]] w fun e w' => e = .returned (.bool true) ∧ Below w.heap.size w w' := by
  cases ra : rightB l
  · exact labelOff_notright l s m t n u w (.inl ra)
  · cases rb : rightB m
    · exact labelOff_notright l s m t n u w (.inr (.inl ⟨ra, rb⟩))
    · cases rc : rightB n
      · exact labelOff_notright l s m t n u w (.inr (.inr ⟨ra, rb, rc⟩))
      · cases hov : leqB (offL l m) (offS s t) n u
        · exact labelOff_notover l s m t n u w ra rb rc (set_of_wf w1) (set_of_wf w3) hov
        · exact labelOff_over l s m t n u w ra rb rc (set_of_wf w1) (set_of_wf w3) (set_of_wf w5) hov

end Go.Proofs.Ytohonaifcpcnbaa
