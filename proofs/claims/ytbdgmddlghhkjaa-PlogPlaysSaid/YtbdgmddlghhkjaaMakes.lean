/-
  Two blocks that are made and read in a region that draws its order: whatever the order, what is read is the same. No program is named here.
-/
import Derived.Test.YtbdgmddlghhkjaaPhaseB
namespace Go.Proofs.Ytbdgmddlghhkjaa
open Go.RowKit

/-- Makes a block, whatever the slots hold; reads it where its slot holds it. -/
def MakesAll (P : Program) (ops : Array Oper) (Q : Exit → Act → World → Prop) (m dm : Nat) (mk : Nat → Value) (o : Obj) : Prop :=
  ∀ a K w, K (a.put (some dm) (mk w.heap.size)) (w.alloc o) → wpOp P ops Q m K a w
def ReadsAll (P : Program) (ops : Array Oper) (Q : Exit → Act → World → Prop) (v dm dv : Nat) (mk : Nat → Value) (z : Value) (o : Obj) : Prop :=
  ∀ a B K w, a.eval (.tmp dm) = mk B → w.heap[B]? = some o → K (a.put (some dv) z) w → wpOp P ops Q v K a w
theorem eval_same {a : Act} {d : Nat} {u : Value} (h : d < a.tmps.size) : (a.put (some d) u).eval (.tmp d) = u := by simp [Act.put, Act.eval, h]
theorem eval_other {a : Act} {d e : Nat} {u : Value} (h : d ≠ e) : (a.put (some d) u).eval (.tmp e) = a.eval (.tmp e) := by simp [Act.put, Act.eval, h]
theorem size_put {a : Act} {d : Nat} {u : Value} : (a.put (some d) u).tmps.size = a.tmps.size := by simp [Act.put]

section
variable {P : Program} {ops : Array Oper} {md : Region.Mode} {Q : Exit → Act → World → Prop} {S : World → Prop} {m1 v1 m2 v2 dm1 dv1 dm2 dv2 n : Nat} {mk1 mk2 : Nat → Value} {o1 o2 : Obj} {z1 z2 : Value} {listed : Array Bool} {a : Act} {w : World}
theorem two_makes (r0 : Region.ready md ops listed = [m1, m2])
    (r1 : Region.ready md ops (listed.setIfInBounds m1 true) = [v1, m2])
    (r11 : Region.ready md ops ((listed.setIfInBounds m1 true).setIfInBounds v1 true) = [m2])
    (r111 : Region.ready md ops (((listed.setIfInBounds m1 true).setIfInBounds v1 true).setIfInBounds m2 true) = [v2])
    (r12 : Region.ready md ops ((listed.setIfInBounds m1 true).setIfInBounds m2 true) = [v1, v2])
    (r122 : Region.ready md ops (((listed.setIfInBounds m1 true).setIfInBounds m2 true).setIfInBounds v2 true) = [v1])
    (r2 : Region.ready md ops (listed.setIfInBounds m2 true) = [m1, v2])
    (r22 : Region.ready md ops ((listed.setIfInBounds m2 true).setIfInBounds v2 true) = [m1])
    (n12 : m1 ≠ m2) (n3 : m1 ≠ v2) (n4 : v1 ≠ m2) (n6 : v1 ≠ v2)
    (d1 : dm1 ≠ dm2) (d2 : dm1 ≠ dv2) (d3 : dv1 ≠ dm2) (d5 : dv1 ≠ dv2) (l1 : dm1 < a.tmps.size) (l2 : dm2 < a.tmps.size)
    (hS : S w) (keep : ∀ w w', S w → Below w.heap.size w w' → S w')
    (M1 : MakesAll P ops Q m1 dm1 mk1 o1) (V1 : ReadsAll P ops Q v1 dm1 dv1 mk1 z1 o1) (M2 : MakesAll P ops Q m2 dm2 mk2 o2) (V2 : ReadsAll P ops Q v2 dm2 dv2 mk2 z2 o2)
    (rest : ∀ B1 B2 w', S w' → wpAny P md ops Q n ((((listed.setIfInBounds m1 true).setIfInBounds v1 true).setIfInBounds m2 true).setIfInBounds v2 true) ((((a.put (some dm1) (mk1 B1)).put (some dv1) z1).put (some dm2) (mk2 B2)).put (some dv2) z2) w') :
    wpAny P md ops Q (n + 1 + 1 + 1 + 1) listed a w := by
  have ha : ∀ (w : World) (o : Obj), S w → S (w.alloc o) := fun w o h => keep _ _ h ((Below.refl _ _).alloc (Nat.le_refl _) _)
  have hlt : ∀ (w : World) (o o' : Obj) (B : Nat), w.heap[B]? = some o → (w.alloc o').heap[B]? = some o := fun w o o' B h => later_at ((Below.refl _ _).alloc (Nat.le_refl _) _) h
  -- both made: B1, B2
  have both : ∀ B1 B2 w', S w' → w'.heap[B1]? = some o1 → w'.heap[B2]? = some o2 → wpAny P md ops Q (n + 1 + 1) ((listed.setIfInBounds m1 true).setIfInBounds m2 true) ((a.put (some dm1) (mk1 B1)).put (some dm2) (mk2 B2)) w' := fun B1 B2 w' h h1 h2 => by
    have hx : (((a.put (some dm1) (mk1 B1)).put (some dm2) (mk2 B2)).put (some dv1) z1).put (some dv2) z2 = (((a.put (some dm1) (mk1 B1)).put (some dv1) z1).put (some dm2) (mk2 B2)).put (some dv2) z2 := by rw [put_swap _ _ (Ne.symm d3)]
    have hy : (((listed.setIfInBounds m1 true).setIfInBounds m2 true).setIfInBounds v1 true).setIfInBounds v2 true = (((listed.setIfInBounds m1 true).setIfInBounds v1 true).setIfInBounds m2 true).setIfInBounds v2 true := by rw [Array.setIfInBounds_comm _ _ (Ne.symm n4)]
    refine two_ready r12 (V1 _ B1 _ _ (by rw [eval_other (Ne.symm d1), eval_same l1]) h1 (one_ready (by rw [Array.setIfInBounds_comm _ _ (Ne.symm n4)]; exact r111) (V2 _ B2 _ _ (by rw [eval_other d3, eval_same (by rw [size_put]; exact l2)]) h2 ?_)))
      (V2 _ B2 _ _ (by rw [eval_same (by rw [size_put]; exact l2)]) h2 (one_ready r122 (V1 _ B1 _ _ (by rw [eval_other (Ne.symm d2), eval_other (Ne.symm d1), eval_same l1]) h1 ?_)))
    · rw [hx, hy]; exact rest B1 B2 w' h
    · rw [put_swap _ _ (Ne.symm d5), hx, Array.setIfInBounds_comm _ _ (Ne.symm n6), hy]; exact rest B1 B2 w' h
  refine two_ready r0 (M1 _ _ _ (two_ready r1 (V1 _ w.heap.size _ _ (eval_same l1) (made_at _ _) (one_ready r11 (M2 _ _ _ (one_ready r111 (V2 _ _ _ _ (eval_same (by rw [size_put, size_put]; exact l2)) (made_at _ _) (rest _ _ _ (ha _ _ (ha _ _ hS)))))))) (M2 _ _ _ (both _ _ _ (ha _ _ (ha _ _ hS)) (hlt _ _ _ _ (made_at _ _)) (made_at _ _)))))
    (M2 _ _ _ (two_ready r2 (M1 _ _ _ ?_) (V2 _ w.heap.size _ _ (eval_same l2) (made_at _ _) (one_ready r22 (M1 _ _ _ ?_)))))
  · rw [put_swap _ _ (Ne.symm d1), Array.setIfInBounds_comm _ _ (Ne.symm n12)]
    exact both _ _ _ (ha _ _ (ha _ _ hS)) (made_at _ _) (hlt _ _ _ _ (made_at _ _))
  · have e1 : ((listed.setIfInBounds m2 true).setIfInBounds v2 true).setIfInBounds m1 true = ((listed.setIfInBounds m1 true).setIfInBounds m2 true).setIfInBounds v2 true := by rw [Array.setIfInBounds_comm _ _ (Ne.symm n3), Array.setIfInBounds_comm _ _ (Ne.symm n12)]
    have e2 : ∀ x y : Value, ((a.put (some dm2) x).put (some dv2) z2).put (some dm1) y = ((a.put (some dm1) y).put (some dm2) x).put (some dv2) z2 := fun x y => by rw [put_swap _ _ (Ne.symm d2), put_swap _ _ (Ne.symm d1)]
    rw [e1, e2]
    refine one_ready r122 (V1 _ _ _ _ (by rw [eval_other (Ne.symm d2), eval_other (Ne.symm d1), eval_same l1]) (made_at _ _) ?_)
    have e3 : (((listed.setIfInBounds m1 true).setIfInBounds m2 true).setIfInBounds v2 true).setIfInBounds v1 true = (((listed.setIfInBounds m1 true).setIfInBounds v1 true).setIfInBounds m2 true).setIfInBounds v2 true := by rw [Array.setIfInBounds_comm _ _ (Ne.symm n6), Array.setIfInBounds_comm _ _ (Ne.symm n4)]
    rw [e3, put_swap _ _ (Ne.symm d5), put_swap _ _ (Ne.symm d3)]
    exact rest _ _ _ (ha _ _ (ha _ _ hS))
end
end Go.Proofs.Ytbdgmddlghhkjaa
