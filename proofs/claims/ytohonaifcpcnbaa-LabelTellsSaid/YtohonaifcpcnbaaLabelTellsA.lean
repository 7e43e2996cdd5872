/-
  The law LabelTells, walked, where the first label is below the second one: it answers true, and leaves all memory that was there as it was. Condition: each Set is a number from 0 to 65535.
-/
import Derived.Test.YtohonaifcpcnbaaLabelH
import Derived.Test.YtohonaifcpcnbaaRegion
import Derived.OpenShut
import Derived.Deep.DeepCutAuto
namespace Go.Proofs.Ytohonaifcpcnbaa
open Go.RowKit

theorem refjoin_or (l s m t : Int) (hs : SetN s) (ht : SetN t) (w : World) :
    Calls Try.prog 13 #[.agg #[.int .i64 l, .int .u16 s], .agg #[.int .i64 m, .int .u16 t]] w fun e w' => e = .returned (.agg #[.int .i64 (mxI l m), .int .u16 (orS s t)]) ∧ Below w.heap.size w w' := by
  rw [← acc_or hs ht]; exact refjoin_is l s m t w
theorem refmeet_and (l s m t : Int) (hs : SetN s) (ht : SetN t) (w : World) :
    Calls Try.prog 15 #[.agg #[.int .i64 l, .int .u16 s], .agg #[.int .i64 m, .int .u16 t]] w fun e w' => e = .returned (.agg #[.int .i64 (mnI l m), .int .u16 (andS s t)]) ∧ Below w.heap.size w w' := by
  rw [← acc_and hs ht]; exact refmeet_is l s m t w
theorem refoff_off (l s m t : Int) (hs : SetN s) (ht : SetN t) (w : World) :
    Calls Try.prog 20 #[.agg #[.int .i64 l, .int .u16 s], .agg #[.int .i64 m, .int .u16 t]] w fun e w' => e = .returned (.agg #[.int .i64 (offL l m), .int .u16 (offS s t)]) ∧ Below w.heap.size w w' := by
  rw [← acc_off hs ht]; exact refoff_is l s m t w

structure TellW (w : World) (l s m t : Int) (wx : World) : Prop where
  a0 : wx.cell? ⟨w.heap.size, 0, none⟩ = some (.int .i64 l)
  a1 : wx.cell? ⟨w.heap.size, 1, none⟩ = some (.int .u16 s)
  b0 : wx.cell? ⟨w.heap.size + 1, 0, none⟩ = some (.int .i64 m)
  b1 : wx.cell? ⟨w.heap.size + 1, 1, none⟩ = some (.int .u16 t)
  bel : Below w.heap.size w wx

set_option maxHeartbeats 8000000 in
set_option maxRecDepth 100000 in
theorem labelTells_below (l s m t : Int) (w : World) (hs : SetN s) (ht : SetN t) (hA : leqB l s m t = true) :
    Calls Try.prog 3 #[.agg #[.int .i64 l, .int .u16 s], .agg #[.int .i64 m, .int .u16 t]] w fun e w' => e = .returned (.bool true) ∧ Below w.heap.size w w' := by
  have hB : Below w.heap.size w ((w.alloc (.cells #[.int .i64 l, .int .u16 s] 24)).alloc (.cells #[.int .i64 m, .int .u16 t] 24)) := ((Below.refl _ _).alloc (Nat.le_refl _) _).alloc (by simp) _
  have hs0 := hs.1
  have hs1 := hs.2
  go_enter Try.func3, Try.ntmps3
  go_wp2_with fail
  refine (refright_is _ _ _ rfl _).mono ?_
  rintro e w1 ⟨rfl, b⟩
  have ca0 : w1.cell? ⟨w.heap.size, 0, none⟩ = some (.int .i64 l) := cell_later b (by simp [go_sem])
  have ca1 : w1.cell? ⟨w.heap.size, 1, none⟩ = some (.int .u16 s) := cell_later b (by simp [go_sem])
  have cb0 : w1.cell? ⟨w.heap.size + 1, 0, none⟩ = some (.int .i64 m) := cell_later b (by simp [go_sem])
  have cb1 : w1.cell? ⟨w.heap.size + 1, 1, none⟩ = some (.int .u16 t) := cell_later b (by simp [go_sem])
  replace hB := below_step hB b
  clear b
  go_upto_if 9 with fail
  go_cut [5, 6] (fun s5 s6 wx => s5 = .bool (rightB l) ∧ s6 = .string (textOut l s) ∧ TellW w l s m t wx)
  case first =>
    cases hr : rightB l
    · have HT := Lib.hid (textOut_no s hr)
      go_wp2_with fail
      go_meet
      exact ⟨by rw [hr], by rw [HT.out], ⟨ca0, ca1, cb0, cb1, hB⟩⟩
    · have HT := Lib.hid (textOut_yes s hr)
      have HR := Lib.hid (rightB_iff.1 hr)
      go_wp2_with fail
      refine (reftext _ _ HR.out.1 HR.out.2 hs0 hs1 _).mono ?_
      rintro e w2 ⟨rfl, b⟩
      go_wp2_with fail
      go_meet
      exact ⟨by rw [hr], by rw [HT.out], ⟨cell_later b ca0, cell_later b ca1, cell_later b cb0, cell_later b cb1, below_step hB b⟩⟩
  case rest =>
    clear ca0 ca1 cb0 cb1 hB
    obtain ⟨rfl, rfl, ⟨ca0, ca1, cb0, cb1, hB⟩⟩ := hcut
    have q1 : (rightB l == rightB l) = true := by simp
    have q2 : sameB (mxI l m) (orS s t) (mxI l m) (orS s t) = true := by simp [sameB]
    have q3 : sameB (mnI l m) (andS s t) (mnI l m) (andS s t) = true := by simp [sameB]
    have q4 : sameB (offL l m) (offS s t) (offL l m) (offS s t) = true := by simp [sameB]
    have q6 : (leqB m t l s == leqB m t l s) = true := by simp
    have q7 : ((textOut l s).toList == (textOut l s).toList) = true := by simp
    have q5 : ((!sameB l s m t) == (!sameB l s m t)) = true := by simp
    have HL := Lib.hid (show (!sameB l s m t && leqB l s m t) = (!sameB l s m t) by rw [hA]; simp)
    go_wp2_with fail
    dsimp only [List.append]
    go_region_held3 (fun w' => w'.cell? ⟨w.heap.size, 0, none⟩ = some (.int .i64 l) ∧ w'.cell? ⟨w.heap.size, 1, none⟩ = some (.int .u16 s) ∧ w'.cell? ⟨w.heap.size + 1, 0, none⟩ = some (.int .i64 m) ∧ w'.cell? ⟨w.heap.size + 1, 1, none⟩ = some (.int .u16 t) ∧ Below w.heap.size w w')
      (first | exact ⟨ca0, ca1, cb0, cb1, hB.drew⟩ | (go_split_ands; exact ⟨cell_later hb (by with_reducible assumption), cell_later hb (by with_reducible assumption), cell_later hb (by with_reducible assumption), cell_later hb (by with_reducible assumption), below_step (by with_reducible assumption) hb⟩))
      (first
        | (go_at_call 10; refine (awake_is _).mono ?_; rintro e wn ⟨rfl, hb⟩)
        | (go_at_call 11; refine (right_is _ _ _ rfl _).mono ?_; rintro e wn ⟨rfl, hb⟩)
        | (go_at_call 12; refine (join_is _ _ _ _ _).mono ?_; rintro e wn ⟨rfl, hb⟩)
        | (go_at_call 13; refine (refjoin_or _ _ _ _ hs ht _).mono ?_; rintro e wn ⟨rfl, hb⟩)
        | (go_at_call 14; refine (meet_is _ _ _ _ _).mono ?_; rintro e wn ⟨rfl, hb⟩)
        | (go_at_call 15; refine (refmeet_and _ _ _ _ hs ht _).mono ?_; rintro e wn ⟨rfl, hb⟩)
        | (go_at_call 16; refine (leq_is _ _ _ _ _ rfl _).mono ?_; rintro e wn ⟨rfl, hb⟩)
        | (go_at_call 17; refine (refleq_is _ _ _ _ (by with_reducible assumption) (by with_reducible assumption) _ rfl _).mono ?_; rintro e wn ⟨rfl, hb⟩)
        | (go_at_call 18; refine (less_is _ _ _ _ (!sameB l s m t) HL.out _).mono ?_; rintro e wn ⟨rfl, hb⟩)
        | (go_at_call 19; refine (off_is _ _ _ _ _).mono ?_; rintro e wn ⟨rfl, hb⟩)
        | (go_at_call 20; refine (refoff_off _ _ _ _ hs ht _).mono ?_; rintro e wn ⟨rfl, hb⟩)
        | (go_at_call 21; refine (over_is _ _ _ _ _ rfl _).mono ?_; rintro e wn ⟨rfl, hb⟩)
        | (go_at_call 22; refine (text_any _ _ hs0 hs1 _).mono ?_; rintro e wn ⟨rfl, hb⟩))
    go_split_ands
    go_wp2_with fail
    go_ret
    exact ⟨rfl, by with_reducible assumption⟩

end Go.Proofs.Ytohonaifcpcnbaa
