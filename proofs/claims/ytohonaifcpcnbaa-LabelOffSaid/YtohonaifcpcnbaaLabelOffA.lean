/-
  The law LabelOff, walked: for any three labels it answers true, and leaves all memory that was there as it was. Condition: each Set is a number from 0 to 65535.
-/
import Derived.Test.YtohonaifcpcnbaaLabelH
namespace Go.Proofs.Ytohonaifcpcnbaa
open Go.RowKit

theorem off_over {l s m t n u : Int} (hs : SetN s) (ht : SetN t) (hu : SetN u) (h : leqB (offL l m) (offS s t) n u = true) : leqB (offL l m) (offS s t) (mxI n m) (orS u t) = true :=
  leq_trans (offS_set hs ht) hu (orS_set hu ht) h (leq_join_left hu ht)

set_option maxHeartbeats 2000000 in
set_option maxRecDepth 100000 in
theorem labelOff_notright (l s m t n u : Int) (w : World) (h : rightB l = false ∨ rightB l = true ∧ rightB m = false ∨ rightB l = true ∧ rightB m = true ∧ rightB n = false) :
    Calls Try.prog 6 #[.agg #[.int .i64 l, .int .u16 s], .agg #[.int .i64 m, .int .u16 t], .agg #[.int .i64 n, .int .u16 u]] w fun e w' => e = .returned (.bool true) ∧ Below w.heap.size w w' := by
  have h3 : Below w.heap.size w (((w.alloc (.cells #[.int .i64 l, .int .u16 s] 24)).alloc (.cells #[.int .i64 m, .int .u16 t] 24)).alloc (.cells #[.int .i64 n, .int .u16 u] 24)) := (((Below.refl _ _).alloc (Nat.le_refl _) _).alloc (by simp) _).alloc (by simp; omega) _
  rcases h with h | ⟨h1, h2⟩ | ⟨h1, h2, h4⟩
  · go_enter Try.func6, Try.ntmps6
    go_wp2_with fail
    refine (refright_is _ _ _ h _).mono ?_
    rintro e w1 ⟨rfl, b1⟩
    go_wp2_with fail
    refine (awake_is _).mono ?_
    rintro e w2 ⟨rfl, b2⟩
    go_wp2_with fail
    go_ret
    exact ⟨rfl, below_step (below_step h3 b1) b2⟩
  · go_enter Try.func6, Try.ntmps6
    go_wp2_with fail
    refine (refright_is _ _ _ h1 _).mono ?_
    rintro e w1 ⟨rfl, b1⟩
    obtain ⟨hc, hf⟩ := bcell b1
    go_wp2_with fail
    refine (refright_is _ _ _ h2 _).mono ?_
    rintro e w2 ⟨rfl, b2⟩
    clear hc hf
    go_wp2_with fail
    refine (awake_is _).mono ?_
    rintro e w3 ⟨rfl, b3⟩
    go_wp2_with fail
    go_ret
    exact ⟨rfl, below_step (below_step (below_step h3 b1) b2) b3⟩
  · go_enter Try.func6, Try.ntmps6
    go_wp2_with fail
    refine (refright_is _ _ _ h1 _).mono ?_
    rintro e w1 ⟨rfl, b1⟩
    have cb0 : w1.cell? ⟨w.heap.size + 1, 0, none⟩ = some (.int .i64 m) := cell_later b1 (by simp [go_sem])
    have cb1 : w1.cell? ⟨w.heap.size + 1, 1, none⟩ = some (.int .u16 t) := cell_later b1 (by simp [go_sem])
    have cc0 : w1.cell? ⟨w.heap.size + 1 + 1, 0, none⟩ = some (.int .i64 n) := cell_later b1 (by simp [go_sem])
    have cc1 : w1.cell? ⟨w.heap.size + 1 + 1, 1, none⟩ = some (.int .u16 u) := cell_later b1 (by simp [go_sem])
    go_wp2_with fail
    refine (refright_is _ _ _ h2 _).mono ?_
    rintro e w2 ⟨rfl, b2⟩
    replace cc0 := cell_later b2 cc0
    replace cc1 := cell_later b2 cc1
    go_wp2_with fail
    refine (refright_is _ _ _ h4 _).mono ?_
    rintro e w3 ⟨rfl, b3⟩
    go_wp2_with fail
    refine (awake_is _).mono ?_
    rintro e w4 ⟨rfl, b4⟩
    go_wp2_with fail
    go_ret
    exact ⟨rfl, below_step (below_step (below_step (below_step h3 b1) b2) b3) b4⟩

end Go.Proofs.Ytohonaifcpcnbaa
