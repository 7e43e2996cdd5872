/-
  The law LabelTexts, walked: for any two labels it answers true, and leaves all memory that was there as it was. No conditions but that the numbers fit their kinds.
-/
import Derived.Test.YtohonaifcpcnbaaLabelH
import Derived.OpenShut
namespace Go.Proofs.Ytohonaifcpcnbaa
open Go.RowKit

/-- Two texts are the same just if the labels are. -/
theorem texts_same {l s m t : Int} (ra : rightB l = true) (rb : rightB m = true) (hs : SetN s) (ht : SetN t) : ((textOut l s).toList == (textOut m t).toList) = sameB l s m t := by
  have a := rightB_iff.1 ra
  have b := rightB_iff.1 rb
  rw [textOut_yes s ra, textOut_yes t rb, Bool.eq_iff_iff, beq_iff_eq, sameB_iff]
  constructor
  · intro h; exact text_inj a.1 a.2 hs b.1 b.2 ht (bytes_ext h)
  · rintro ⟨rfl, rfl⟩; rfl
theorem text_six {l s : Int} (ra : rightB l = true) : (textOut l s).size = 6 := by
  rw [textOut_yes s ra, strOfNums_size]; rfl
theorem join_right {l m : Int} (ra : rightB l = true) (rb : rightB m = true) : rightB (mxI l m) = true := by
  rw [rightB_iff] at *
  unfold mxI
  split <;> omega

set_option maxHeartbeats 1000000 in
set_option maxRecDepth 100000 in
theorem labelTexts_notright (l s m t : Int) (w : World) (h : rightB l = false ∨ rightB l = true ∧ rightB m = false) :
    Calls Try.prog 7 #[.agg #[.int .i64 l, .int .u16 s], .agg #[.int .i64 m, .int .u16 t]] w fun e w' => e = .returned (.bool true) ∧ Below w.heap.size w w' := by
  have h3 : Below w.heap.size w ((w.alloc (.cells #[.int .i64 l, .int .u16 s] 24)).alloc (.cells #[.int .i64 m, .int .u16 t] 24)) := ((Below.refl _ _).alloc (Nat.le_refl _) _).alloc (by simp) _
  rcases h with h | ⟨h1, h2⟩
  · go_enter Try.func7, Try.ntmps7
    go_wp2_with fail
    refine (awake_is _).mono ?_
    rintro e w1 ⟨rfl, b1⟩
    have ca0 : w1.cell? ⟨w.heap.size, 0, none⟩ = some (.int .i64 l) := cell_later b1 (by simp [go_sem])
    have ca1 : w1.cell? ⟨w.heap.size, 1, none⟩ = some (.int .u16 s) := cell_later b1 (by simp [go_sem])
    go_wp2_with fail
    refine (refright_is _ _ _ h _).mono ?_
    rintro e w2 ⟨rfl, b2⟩
    go_wp2_with fail
    refine (awake_is _).mono ?_
    rintro e w3 ⟨rfl, b3⟩
    go_wp2_with fail
    go_ret
    exact ⟨rfl, below_step (below_step (below_step h3 b1) b2) b3⟩
  · go_enter Try.func7, Try.ntmps7
    go_wp2_with fail
    refine (awake_is _).mono ?_
    rintro e w1 ⟨rfl, b1⟩
    have ca0 : w1.cell? ⟨w.heap.size, 0, none⟩ = some (.int .i64 l) := cell_later b1 (by simp [go_sem])
    have ca1 : w1.cell? ⟨w.heap.size, 1, none⟩ = some (.int .u16 s) := cell_later b1 (by simp [go_sem])
    have cb0 : w1.cell? ⟨w.heap.size + 1, 0, none⟩ = some (.int .i64 m) := cell_later b1 (by simp [go_sem])
    have cb1 : w1.cell? ⟨w.heap.size + 1, 1, none⟩ = some (.int .u16 t) := cell_later b1 (by simp [go_sem])
    go_wp2_with fail
    refine (refright_is _ _ _ h1 _).mono ?_
    rintro e w2 ⟨rfl, b2⟩
    replace cb0 := cell_later b2 cb0
    replace cb1 := cell_later b2 cb1
    clear ca0 ca1
    go_wp2_with fail
    refine (refright_is _ _ _ h2 _).mono ?_
    rintro e w3 ⟨rfl, b3⟩
    go_wp2_with fail
    refine (awake_is _).mono ?_
    rintro e w4 ⟨rfl, b4⟩
    go_wp2_with fail
    go_ret
    exact ⟨rfl, below_step (below_step (below_step (below_step h3 b1) b2) b3) b4⟩

set_option maxHeartbeats 2000000 in
set_option maxRecDepth 100000 in
theorem labelTexts_right (l s m t : Int) (w : World) (ra : rightB l = true) (rb : rightB m = true) (hs : SetN s) (ht : SetN t) :
    Calls Try.prog 7 #[.agg #[.int .i64 l, .int .u16 s], .agg #[.int .i64 m, .int .u16 t]] w fun e w' => e = .returned (.bool true) ∧ Below w.heap.size w w' := by
  have hB : Below w.heap.size w ((w.alloc (.cells #[.int .i64 l, .int .u16 s] 24)).alloc (.cells #[.int .i64 m, .int .u16 t] 24)) := ((Below.refl _ _).alloc (Nat.le_refl _) _).alloc (by simp) _
  have hs0 := hs.1
  have hs1 := hs.2
  have ht0 := ht.1
  have ht1 := ht.2
  have ho := orS_set hs ht
  have ho0 := ho.1
  have ho1 := ho.2
  have rj := join_right ra rb
  have hj := rightB_iff.1 rj
  have e1 := texts_same ra rb hs ht
  have e2 : (sameB l s m t == sameB l s m t) = true := by simp
  have e3 := leq_join_left (l := l) (m := m) hs ht
  have e4 := leq_join_right (l := l) (m := m) hs ht
  have e5 := text_six (s := s) ra
  have HT := Lib.hid (text_good (textOut (mxI l m) (orS s t)) hj.1 hj.2 ho (textOut_yes _ rj).symm)
  have HA := Lib.hid ra
  have HB := Lib.hid rb
  clear hs ht ho rj hj ra rb
  go_enter Try.func7, Try.ntmps7
  go_wp2_with fail
  refine (awake_is _).mono ?_
  rintro e w1 ⟨rfl, b1⟩
  have ca0 : w1.cell? ⟨w.heap.size, 0, none⟩ = some (.int .i64 l) := cell_later b1 (by simp [go_sem])
  have ca1 : w1.cell? ⟨w.heap.size, 1, none⟩ = some (.int .u16 s) := cell_later b1 (by simp [go_sem])
  have cb0 : w1.cell? ⟨w.heap.size + 1, 0, none⟩ = some (.int .i64 m) := cell_later b1 (by simp [go_sem])
  have cb1 : w1.cell? ⟨w.heap.size + 1, 1, none⟩ = some (.int .u16 t) := cell_later b1 (by simp [go_sem])
  replace hB := below_step hB b1
  clear b1
  go_wp2_with fail
  refine (refright_is _ _ _ HA.out _).mono ?_
  rintro e w2 ⟨rfl, b⟩
  replace ca0 := cell_later b ca0
  replace ca1 := cell_later b ca1
  replace cb0 := cell_later b cb0
  replace cb1 := cell_later b cb1
  replace hB := below_step hB b
  clear b
  go_wp2_with fail
  refine (refright_is _ _ _ HB.out _).mono ?_
  rintro e w3 ⟨rfl, b⟩
  replace ca0 := cell_later b ca0
  replace ca1 := cell_later b ca1
  replace cb0 := cell_later b cb0
  replace cb1 := cell_later b cb1
  replace hB := below_step hB b
  clear b
  go_wp2_with fail
  refine (join_is _ _ _ _ _).mono ?_
  rintro e w4 ⟨rfl, b⟩
  replace ca0 := cell_later b ca0
  replace ca1 := cell_later b ca1
  replace cb0 := cell_later b cb0
  replace cb1 := cell_later b cb1
  replace hB := below_step hB b
  clear b
  go_wp2_with fail
  refine (text_any _ _ ho0 ho1 _).mono ?_
  rintro e w5 ⟨rfl, b⟩
  replace ca0 := cell_later b ca0
  replace ca1 := cell_later b ca1
  replace cb0 := cell_later b cb0
  replace cb1 := cell_later b cb1
  replace hB := below_step hB b
  clear b
  go_wp2_with fail
  refine (parse_good _ (mxI l m) (orS s t) HT.out.1 HT.out.2.1 HT.out.2.2 _).mono ?_
  rintro e w6 ⟨rfl, b⟩
  replace ca0 := cell_later b ca0
  replace ca1 := cell_later b ca1
  replace cb0 := cell_later b cb0
  replace cb1 := cell_later b cb1
  replace hB := below_step hB b
  clear b
  have cl0 : (w6.alloc (.cells #[.int .i64 (mxI l m), .int .u16 (orS s t)] 24)).cell? ⟨w6.heap.size, 0, none⟩ = some (.int .i64 (mxI l m)) := by simp [go_sem]
  have cl1 : (w6.alloc (.cells #[.int .i64 (mxI l m), .int .u16 (orS s t)] 24)).cell? ⟨w6.heap.size, 1, none⟩ = some (.int .u16 (orS s t)) := by simp [go_sem]
  replace hB := hB.alloc hB.size (.cells #[.int .i64 (mxI l m), .int .u16 (orS s t)] 24)
  replace ca0 := cell_alloc (o := .cells #[.int .i64 (mxI l m), .int .u16 (orS s t)] 24) ca0
  replace ca1 := cell_alloc (o := .cells #[.int .i64 (mxI l m), .int .u16 (orS s t)] 24) ca1
  replace cb0 := cell_alloc (o := .cells #[.int .i64 (mxI l m), .int .u16 (orS s t)] 24) cb0
  replace cb1 := cell_alloc (o := .cells #[.int .i64 (mxI l m), .int .u16 (orS s t)] 24) cb1
  go_wp2_with fail
  go_region_held3 (fun w' => w'.cell? ⟨w.heap.size, 0, none⟩ = some (.int .i64 l) ∧ w'.cell? ⟨w.heap.size, 1, none⟩ = some (.int .u16 s) ∧ w'.cell? ⟨w.heap.size + 1, 0, none⟩ = some (.int .i64 m) ∧ w'.cell? ⟨w.heap.size + 1, 1, none⟩ = some (.int .u16 t) ∧ w'.cell? ⟨w6.heap.size, 0, none⟩ = some (.int .i64 (mxI l m)) ∧ w'.cell? ⟨w6.heap.size, 1, none⟩ = some (.int .u16 (orS s t)) ∧ Below w.heap.size w w')
    (first | exact ⟨ca0, ca1, cb0, cb1, cl0, cl1, hB.drew⟩ | (go_split_ands; exact ⟨cell_later hb (by with_reducible assumption), cell_later hb (by with_reducible assumption), cell_later hb (by with_reducible assumption), cell_later hb (by with_reducible assumption), cell_later hb (by with_reducible assumption), cell_later hb (by with_reducible assumption), below_step (by with_reducible assumption) hb⟩))
    (first
      | (go_at_call 22; refine (text_any _ _ (by omega) (by omega) _).mono ?_; rintro e wn ⟨rfl, hb⟩)
      | (go_at_call 16; refine (leq_is _ _ _ _ _ rfl _).mono ?_; rintro e wn ⟨rfl, hb⟩))
  go_split_ands
  go_wp2_with fail
  go_ret
  exact ⟨rfl, by with_reducible assumption⟩

theorem set_of_wf' {s : Int} (h : (Lit.int .u16 s).wf = true) : SetN s := by
  have := bounds_u16 h
  exact ⟨this.1, by omega⟩

theorem labelTexts_walk (l s m t : Int) (_w0 : (Lit.int .i64 l).wf = true) (w1 : (Lit.int .u16 s).wf = true) (_w2 : (Lit.int .i64 m).wf = true) (w3 : (Lit.int .u16 t).wf = true) (w : World) :
    Calls Try.prog 7 #[.agg #[.int .i64 l, .int .u16 s], .agg #[.int .i64 m, .int .u16 t]] w fun e w' => e = .returned (.bool true) ∧ Below w.heap.size w w' := by
  cases ra : rightB l
  · exact labelTexts_notright l s m t w (.inl ra)
  · cases rb : rightB m
    · exact labelTexts_notright l s m t w (.inr ⟨ra, rb⟩)
    · exact labelTexts_right l s m t w ra rb (set_of_wf' w1) (set_of_wf' w3)

end Go.Proofs.Ytohonaifcpcnbaa
