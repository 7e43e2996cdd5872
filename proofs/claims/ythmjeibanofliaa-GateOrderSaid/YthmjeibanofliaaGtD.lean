/-
  GateOrder over the bundle. No conditions but how the list lies.
-/
import Derived.Test.YthmjeibanofliaaGtB
import Derived.Test.YthmjeibanofliaaPhaseC
import Derived.Test.YthmjeibanofliaaFirst
namespace Go.Proofs.Ythmjeibanofliaa
open Go.RowKit

/-- An operation that yields one value in every world is taken next, whatever the others do. -/
theorem any_val {P : Program} {md : Region.Mode} {ops : Array Oper} {Q : Exit → Act → World → Prop} {i : Nat} {oi : Oper} {d : Tmp} {v : Value} {f : Nat} {listed : Array Bool} {a : Act} {w : World} (hp : plainB ops = true) (hi : ops[i]? = some oi) (hd : oi.dst = some d) (hQ : ∀ c a w, Q (.panic c) (a.put (some d) v) w → Q (.panic c) a w)
    (hf : Region.free md ops listed i = true) (hr : (Region.ready md ops listed).contains i = true) (hv : ∀ w, (execOp a.eval oi).run P w = .ok (.value v) w) (h : wpAny P md ops Q f (listed.setIfInBounds i true) (a.put (some d) v) w) : wpAny P md ops Q (f + 1) listed a w :=
  any_still hp hi hd hQ f listed a w hf (by simpa using hr) (fun w => by unfold Oper.quietAt; rw [hv w]; exact ⟨rfl, rfl⟩) h
theorem spot_none12 {w : World} {p : Addr} {v : Value} (h : w.cell? p = some v) : p.spot = none := by
  obtain ⟨b, o, s⟩ := p
  unfold World.cell? at h
  cases s with
  | none => rfl
  | some x => split at h <;> cases h
theorem cell_block {w w' : World} {p : Addr} (h : w'.heap[p.block]? = w.heap[p.block]?) : w'.cell? p = w.cell? p := by
  unfold World.cell?
  rw [h]
theorem row_keep12 {W : World} {B q i : Nat} {v : Value} (hq : q ≠ B) : (W.setCell ⟨B, i, none⟩ v).heap[q]? = W.heap[q]? := Below.heap_setCell W ⟨B, i, none⟩ v q (by simpa using hq)
section
variable {w : World} {A B : Option Addr} {c d g h i : Nat} {l yes zs : List Int} {no : Bool} {v : Value}
theorem IntsC.set (hI : IntsC w A c l) (hg : w.heap[g]? = some (.cells #[.slice B d h, .bool no] 26 (0, 0))) (i : Nat) (v : Value) : IntsC (w.setCell ⟨g, i, none⟩ v) A c l := by
  refine ⟨fun hn => ?_, hI.cap, hI.nil⟩
  obtain ⟨ad, e, hc⟩ := hI.at_ hn
  refine ⟨ad, e, fun j hj => ?_⟩
  have h1 := hc j hj
  by_cases hb : (ad.add j).block = g
  · exfalso
    have hs := spot_none12 h1
    generalize ad.add j = p at h1 hb hs
    obtain ⟨b, o, s⟩ := p
    obtain rfl : s = none := hs
    obtain rfl : b = g := hb
    rw [cellH hg] at h1
    rcases o with _ | _ | o
    · cases h1
    · cases h1
    · simp at h1
  · rw [cell_block (row_keep12 hb)]
    exact h1
/-- Votes stored where others stood. -/
theorem VtAt.put (h0 : VtAt w g B d zs no) (hI : IntsC w A c yes) (n2 : Bool) : VtAt ((w.setCell ⟨g, 0, none⟩ (.slice A yes.length c)).setCell ⟨g, 1, none⟩ (.bool n2)) g A c yes n2 := by
  have r1 := row_set (i := 0) (v := .slice A yes.length c) h0.1
  have r2 := row_set (i := 1) (v := .bool n2) r1
  refine ⟨?_, ?_⟩
  · rw [r2]
    simp
  · have i1 := hI.set h0.1 0 (.slice A yes.length c)
    have r1' : (w.setCell ⟨g, 0, none⟩ (.slice A yes.length c)).heap[g]? = some (.cells #[.slice A yes.length c, .bool no] 26 (0, 0)) := by rw [r1]; simp
    exact i1.set r1' 1 (.bool n2)
theorem VtAt.beside (h0 : VtAt w g B d zs no) {k : Nat} {C : Option Addr} {p q : Nat} {b2 : Bool} (hk : w.heap[k]? = some (.cells #[.slice C p q, .bool b2] 26 (0, 0))) (hne : g ≠ k) {C' : Option Addr} {p' q' : Nat} (n2 : Bool) : VtAt ((w.setCell ⟨k, 0, none⟩ (.slice C' p' q')).setCell ⟨k, 1, none⟩ (.bool n2)) g B d zs no := by
  have r1' : (w.setCell ⟨k, 0, none⟩ (.slice C' p' q')).heap[k]? = some (.cells #[.slice C' p' q', .bool b2] 26 (0, 0)) := by rw [row_set hk]; simp
  refine ⟨?_, (h0.2.set hk 0 _).set r1' 1 _⟩
  rw [row_keep12 hne, row_keep12 hne]
  exact h0.1
end
section
variable {w : World} {A : Option Addr} {c : Nat} {l : List Int}
set_option maxHeartbeats 8000000 in
set_option maxRecDepth 100000 in
theorem gateorder_true (C : GateOk) (hA : IntsL w A l) (hlc : l.length ≤ c) (need : Int) (hn : l.length ≤ 9223372036854775807) : Calls Try.prog 4 #[.slice A l.length c, .int .i64 need] w fun e w' => e = .returned (.bool true) ∧ Below w.heap.size w w' := by
  have HC := Lib.hid C
  have HA := Lib.hid hA
  have HLC := Lib.hid hlc
  have HVT := Lib.hid (fun (W : World) (A : Option Addr) (c : Nat) (yes : List Int) (x : Int) (h : IntsC W A c yes) (hr : RisL yes) => show Calls Try.prog 6 #[.agg #[.slice A yes.length c, .bool false], .int .i64 x, .bool true, .int .i64 need] W (VtP W (yesV yes x true) false (mayV (yesV yes x true) false need)) from C.vote false true x need h hr)
  clear C hA hlc
  go_enter Try.func4, Try.ntmps4
  go_wp2_with fail
  refine (gtawake_true HC.out _).mono ?_
  rintro e w1 ⟨rfl, hb1⟩
  have HB1 := Lib.hid hb1
  clear hb1
  by_cases h50 : (50 : Int) < (l.length : Int)
  · go_wp2_with fail
    refine (gtawake_true HC.out _).mono ?_
    rintro e w2 ⟨rfl, hb2⟩
    have HB2 := Lib.hid (below_step HB1.out hb2)
    clear hb2
    go_wp2_with fail
    go_ret
    exact ⟨rfl, HB2.out⟩
  have hl50 : l.length ≤ 50 := by omega
  clear hn
  have hal1 := (Below.refl w1.heap.size w1).alloc (Nat.le_refl _) (.cells #[.slice none (0 : Nat) 0, .bool false] 26)
  have hal2 := (Below.refl _ (w1.alloc (.cells #[.slice none (0 : Nat) 0, .bool false] 26))).alloc (Nat.le_refl _) (.cells #[.slice none (0 : Nat) 0, .bool false] 26)
  have hva : VtAt (w1.alloc (.cells #[.slice none (0 : Nat) 0, .bool false] 26)) w1.heap.size none 0 [] false := VtAt.made (IntsC.none_ w1) false
  have hvb : VtAt ((w1.alloc (.cells #[.slice none (0 : Nat) 0, .bool false] 26)).alloc (.cells #[.slice none (0 : Nat) 0, .bool false] 26)) (w1.alloc (.cells #[.slice none (0 : Nat) 0, .bool false] 26)).heap.size none 0 [] false := VtAt.made (IntsC.none_ _) false
  rw [World.size_alloc] at hvb
  have HVA := Lib.hid (hva.later hal2)
  have HVB := Lib.hid hvb
  have HB2 := Lib.hid (below_step (below_step HB1.out hal1) hal2)
  have HGL := Lib.hid (show w.heap.size ≤ w1.heap.size from HB1.out.size)
  clear hal1 hal2 hva hvb HB1
  go_upto_region 4 with fail
  generalize hW2 : ((w1.alloc (.cells #[.slice none (0 : Nat) 0, .bool false] 26)).alloc (.cells #[.slice none (0 : Nat) 0, .bool false] 26)) = W2 at *
  clear hW2
  obtain ⟨gb, hgb⟩ : ∃ gb, gb = w1.heap.size + 1 := ⟨_, rfl⟩
  obtain ⟨ga, hga⟩ : ∃ ga, ga = w1.heap.size := ⟨_, rfl⟩
  have HNE := Lib.hid (show ga ≠ gb ∧ w.heap.size ≤ ga ∧ w.heap.size ≤ gb from by have := HGL.out; omega)
  rw [← hgb] at HVB
  rw [← hga] at HVA
  rw [← hgb, ← hga]
  clear hgb hga HGL
  go_wp2_with fail
  go_loopw [20] (fun i wr => ∃ (k : Nat) (P Q : Option Addr) (p q : Nat), i = .int .i64 k ∧ k ≤ l.length ∧ Hid (VtAt wr ga P p (foldY (l.take k)) false) ∧ Hid (VtAt wr gb Q q (foldY (l.reverse.take k)) false) ∧ Hid (Below w.heap.size w wr)) (fun i _ => l.length - (intOf i).toNat)
  case atStart => exact ⟨0, none, none, 0, 0, rfl, Nat.zero_le _, HVA, HVB, HB2⟩
  case round =>
    obtain ⟨k, P, Q, p, q, rfl, hk, HP, HQ, HB⟩ := hrel
    by_cases hlt : k < l.length
    · have hkl : (k : Int) < (l.length : Int) := by omega
      have hkc : (k : Int) < (c : Int) := by have := HLC.out; omega
      obtain ⟨ad, rfl, hc0⟩ := HA.out.at_ hlt
      have hx : ∃ x, l[k]? = some x := ⟨_, List.getElem?_eq_getElem hlt⟩
      obtain ⟨x, hx⟩ := hx
      rw [List.getD_eq_getElem?_getD, hx] at hc0
      have hc1 : wr.drew.cell? (ad.add k) = some (.int .i64 x) := cell_later (HB.out.drew) hc0
      have HX := Lib.hid hx
      have HP0 := Lib.hid (HP.out.later (Below.refl _ _).drew)
      have HQ0 := Lib.hid (HQ.out.later (Below.refl _ _).drew)
      have HB0 := Lib.hid HB.out.drew
      have HNX := Lib.hid (show foldY (l.take (k + 1)) = yesV (foldY (l.take k)) x true by rw [List.take_add_one, hx]; exact foldY_next _ _)
      obtain ⟨ya, hya⟩ : ∃ ya, ya = foldY (l.take k) := ⟨_, rfl⟩
      have HRA := Lib.hid (show RisL ya from by rw [hya]; exact foldY_rise _)
      rw [← hya] at HP0 HNX
      have f0' := HP0.out.cells.1
      have f1' := HP0.out.cells.2
      clear hx hc0 hya
      go_upto_region 7 with fail
      refine wp_region_phase3 (fun W' => W' = wr.drew) 6 5 (by kernel_rfl) (by kernel_rfl) rfl (by kernel_rfl) (by kernel_rfl) (by kernel_rfl) rfl ?_
      intro hne
      simp only [List.take_succ_cons, List.take_zero]
      have f0 : ∀ y : HeldW (fun W' => W' = wr.drew), y.w.cell? ⟨ga, 0, none⟩ = some (.slice P ya.length p) := fun y => by rw [y.ok]; exact f0'
      have f1 : ∀ y : HeldW (fun W' => W' = wr.drew), y.w.cell? ⟨ga, 1, none⟩ = some (.bool false) := fun y => by rw [y.ok]; exact f1'
      have f2 : ∀ y : HeldW (fun W' => W' = wr.drew), y.w.cell? (ad.add k) = some (.int .i64 x) := fun y => by rw [y.ok]; exact hc1
      clear f0' f1' hc1
      repeat (go_big_quiet_step (fail))
      refine wpQuiet_nil ?_
      rintro W3 ⟨⟨W3, hS3⟩, rfl⟩
      subst hS3
      clear f0 f1 f2 hne
      generalize wr.drew = W3 at *
      refine one_ready (i := 6) (by kernel_rfl) (wpOp_step rfl (fun KK hKK => ?_))
      go_simp
      refine (HVT.out _ _ _ _ x HP0.out.2 HRA.out).mono ?_
      rintro e w4 ⟨A4, c4, rfl, hi4, hb4⟩
      refine hKK _ _ ?_
      clear hKK KK
      have HI4 := Lib.hid hi4
      have HP4 := Lib.hid (HP0.out.later hb4)
      have HQ4 := Lib.hid (HQ0.out.later hb4)
      have HB4 := Lib.hid (below_step HB0.out hb4)
      clear hi4 hb4 HP0 HQ0 HB0
      refine any_val (i := 7) (by kernel_rfl) rfl rfl (fun _ _ _ h => h) (by kernel_rfl) (by kernel_rfl) (fun w => (by go_simp; try with_reducible rfl)) ?_
      simp only [Act.put, List.setIfInBounds_toArray, List.set_cons_zero, List.set_cons_succ]
      refine any_val (i := 8) (by kernel_rfl) rfl rfl (fun _ _ _ h => h) (by kernel_rfl) (by kernel_rfl) (fun w => (by go_simp; try with_reducible rfl)) ?_
      simp only [Act.put, List.setIfInBounds_toArray, List.set_cons_zero, List.set_cons_succ]
      refine any_val (i := 9) (by kernel_rfl) rfl rfl (fun _ _ _ h => h) (by kernel_rfl) (by kernel_rfl) (fun w => (by go_simp; try with_reducible rfl)) ?_
      simp only [Act.put, List.setIfInBounds_toArray, List.set_cons_zero, List.set_cons_succ]
      have y0 := HP4.out.cells.1
      have y1 := HP4.out.cells.2
      have g0 := freeH HP4.out.1 0
      have g1 := freeH HP4.out.1 1
      refine one_ready (i := 10) (by kernel_rfl) (wpOp_step rfl (fun KK hKK => ?_))
      go_simp
      refine hKK _ _ ?_
      clear hKK KK
      refine ⟨by kernel_rfl, ?_⟩
      have HP5 := Lib.hid (HP4.out.put HI4.out false)
      have HQ5 := Lib.hid (HQ4.out.beside HP4.out.1 (Ne.symm HNE.out.1) (C' := A4) (p' := (yesV ya x true).length) (q' := c4) false)
      have HB5 := Lib.hid ((HB4.out.setCell (p := ⟨ga, 0, none⟩) HNE.out.2.1 (.slice A4 (yesV ya x true).length c4)).setCell (p := ⟨ga, 1, none⟩) HNE.out.2.1 (.bool false))
      generalize (w4.setCell ⟨ga, 0, none⟩ (.slice A4 (yesV ya x true).length c4)).setCell ⟨ga, 1, none⟩ (.bool false) = W5 at *
      rw [← HNX.out] at HP5
      clear HP4 HQ4 HB4 HI4 y0 y1 g0 g1 HNX HRA
      obtain ⟨ad2, e2, hc2⟩ := HA.out.at_ (show l.length - 1 - k < l.length by omega)
      obtain rfl := Option.some.inj e2
      obtain ⟨z, hz⟩ : ∃ z, l[l.length - 1 - k]? = some z := ⟨_, List.getElem?_eq_getElem (by omega)⟩
      rw [List.getD_eq_getElem?_getD, hz] at hc2
      have hzr : l.reverse[k]? = some z := by rw [List.getElem?_reverse hlt]; exact hz
      have hc3 : W5.drew.cell? (ad.add (l.length - 1 - k)) = some (.int .i64 z) := cell_later (HB5.out.drew) hc2
      have HP0 := Lib.hid (HP5.out.later (Below.refl _ _).drew)
      have HQ0 := Lib.hid (HQ5.out.later (Below.refl _ _).drew)
      have HB0 := Lib.hid HB5.out.drew
      have HNY := Lib.hid (show foldY (l.reverse.take (k + 1)) = yesV (foldY (l.reverse.take k)) z true by rw [List.take_add_one, hzr]; exact foldY_next _ _)
      obtain ⟨yb, hyb⟩ : ∃ yb, yb = foldY (l.reverse.take k) := ⟨_, rfl⟩
      have HRB := Lib.hid (show RisL yb from by rw [hyb]; exact foldY_rise _)
      rw [← hyb] at HQ0 HNY
      have f0' := HQ0.out.cells.1
      have f1' := HQ0.out.cells.2
      have hix : (l.length : Int) - 1 - (k : Int) = ((l.length - 1 - k : Nat) : Int) := by omega
      obtain ⟨q2, hq2⟩ : ∃ q2, q2 = l.length - 1 - k := ⟨_, rfl⟩
      rw [← hq2] at hix hc3
      have hq0 : q2 < l.length := by omega
      have hq3 : (q2 : Int) < (l.length : Int) := by omega
      have hq4 : (q2 : Int) < (c : Int) := by have := HLC.out; omega
      clear hz hzr hc2 hyb e2 HP5 HQ5 HB5 hq2
      go_upto_region 8 with fail
      refine wp_region_phase3 (fun W' => W' = W5.drew) 10 5 (by kernel_rfl) (by kernel_rfl) rfl (by kernel_rfl) (by kernel_rfl) (by kernel_rfl) rfl ?_
      intro hne
      simp only [List.take_succ_cons, List.take_zero]
      have f0 : ∀ y : HeldW (fun W' => W' = W5.drew), y.w.cell? ⟨gb, 0, none⟩ = some (.slice Q yb.length q) := fun y => by rw [y.ok]; exact f0'
      have f1 : ∀ y : HeldW (fun W' => W' = W5.drew), y.w.cell? ⟨gb, 1, none⟩ = some (.bool false) := fun y => by rw [y.ok]; exact f1'
      have f2 : ∀ y : HeldW (fun W' => W' = W5.drew), y.w.cell? (ad.add q2) = some (.int .i64 z) := fun y => by rw [y.ok]; exact hc3
      clear f0' f1' hc3
      repeat (go_big_quiet_step (fail))
      refine wpQuiet_nil ?_
      rintro W3 ⟨⟨W3, hS3⟩, rfl⟩
      subst hS3
      clear f0 f1 f2 hne
      generalize W5.drew = W3 at *
      refine one_ready (i := 10) (by kernel_rfl) (wpOp_step rfl (fun KK hKK => ?_))
      go_simp
      refine (HVT.out _ _ _ _ z HQ0.out.2 HRB.out).mono ?_
      rintro e w6 ⟨A6, c6, rfl, hi6, hb6⟩
      refine hKK _ _ ?_
      clear hKK KK
      have HI6 := Lib.hid hi6
      have HP6 := Lib.hid (HP0.out.later hb6)
      have HQ6 := Lib.hid (HQ0.out.later hb6)
      have HB6 := Lib.hid (below_step HB0.out hb6)
      clear hi6 hb6 HP0 HQ0 HB0
      refine any_val (i := 11) (by kernel_rfl) rfl rfl (fun _ _ _ h => h) (by kernel_rfl) (by kernel_rfl) (fun w => (by go_simp; try with_reducible rfl)) ?_
      simp only [Act.put, List.setIfInBounds_toArray, List.set_cons_zero, List.set_cons_succ]
      refine any_val (i := 12) (by kernel_rfl) rfl rfl (fun _ _ _ h => h) (by kernel_rfl) (by kernel_rfl) (fun w => (by go_simp; try with_reducible rfl)) ?_
      simp only [Act.put, List.setIfInBounds_toArray, List.set_cons_zero, List.set_cons_succ]
      refine any_val (i := 13) (by kernel_rfl) rfl rfl (fun _ _ _ h => h) (by kernel_rfl) (by kernel_rfl) (fun w => (by go_simp; try with_reducible rfl)) ?_
      simp only [Act.put, List.setIfInBounds_toArray, List.set_cons_zero, List.set_cons_succ]
      have y0 := HQ6.out.cells.1
      have y1 := HQ6.out.cells.2
      have g0 := freeH HQ6.out.1 0
      have g1 := freeH HQ6.out.1 1
      refine one_ready (i := 14) (by kernel_rfl) (wpOp_step rfl (fun KK hKK => ?_))
      go_simp
      refine hKK _ _ ?_
      clear hKK KK
      refine ⟨by kernel_rfl, ?_⟩
      have HQ7 := Lib.hid (HQ6.out.put HI6.out false)
      have HP7 := Lib.hid (HP6.out.beside HQ6.out.1 HNE.out.1 (C' := A6) (p' := (yesV yb z true).length) (q' := c6) false)
      have HB7 := Lib.hid ((HB6.out.setCell (p := ⟨gb, 0, none⟩) HNE.out.2.2 (.slice A6 (yesV yb z true).length c6)).setCell (p := ⟨gb, 1, none⟩) HNE.out.2.2 (.bool false))
      generalize (w6.setCell ⟨gb, 0, none⟩ (.slice A6 (yesV yb z true).length c6)).setCell ⟨gb, 1, none⟩ (.bool false) = W7 at *
      rw [← HNY.out] at HQ7
      clear HP6 HQ6 HB6 HI6 y0 y1 g0 g1 HNY HRB hix hq0 hq3 hq4
      go_wp2_with fail
      go_roundw
      case rel => exact ⟨k + 1, _, _, _, _, by go_num, by omega, HP7, HQ7, HB7⟩
      case measure => (simp [intOf]; try omega)
    · obtain rfl : k = l.length := by omega
      have hlk : ¬ (l.length : Int) < (l.length : Int) := by omega
      have HT := Lib.hid (show foldY (l.reverse.take l.length) = foldY (l.take l.length) from by
        rw [List.take_length, show l.reverse.take l.length = l.reverse from by rw [← List.length_reverse]; exact List.take_length]
        exact foldY_turn _ _ fun x => List.mem_reverse)
      rw [HT.out] at HQ
      obtain ⟨ya, hya⟩ : ∃ ya, ya = foldY (l.take l.length) := ⟨_, rfl⟩
      have HRA := Lib.hid (show RisL ya from by rw [hya]; exact foldY_rise _)
      rw [← hya] at HP HQ
      clear hya HT
      have h12 := HRA.out.len
      have HLA := Lib.hid (show ya.length ≤ 64 by omega)
      have HVN := Lib.hid (fun (W : World) (h : IntsC W P p ya) => show Calls Try.prog 6 #[.agg #[.slice P ya.length p, .bool false], .int .i64 0, .bool false, .int .i64 need] W (VtP W ya true false) from HC.out.vote false false 0 need h HRA.out)
      have x0 := HP.out.cells.1
      have x1 := HP.out.cells.2
      go_wp2_with fail
      refine (HVN.out _ HP.out.2).mono ?_
      rintro e w3 ⟨A3, c3, rfl, hi3, hb3⟩
      have hal := hb3.alloc hb3.size (.cells #[.slice A3 ya.length c3, .bool true] 26)
      have HX := Lib.hid (VtAt.made hi3 true)
      have HP3 := Lib.hid (HP.out.later hal)
      have HQ3 := Lib.hid (HQ.out.later hal)
      have HB3 := Lib.hid (below_step HB.out hal)
      clear hi3 hb3 hal x0 x1 HVN HP HQ HB
      go_upto_region 11 with fail
      generalize (w3.alloc (.cells #[.slice A3 ya.length c3, .bool true] 26)) = W3 at *
      generalize w3.heap.size = gc at *
      have x0 := HP3.out.cells.1
      have y0 := HQ3.out.cells.1
      go_wp2_with fail
      refine (gsame_is HP3.out.2 HQ3.out.2 HLA.out).mono ?_
      rintro e w4 ⟨rfl, hb4⟩
      have HX4 := Lib.hid (HX.out.later hb4)
      have HP4 := Lib.hid (HP3.out.later hb4)
      have HB4 := Lib.hid (below_step HB3.out hb4)
      clear hb4 x0 y0 HX HP3 HQ3 HB3
      have x0 := HP4.out.cells.1
      have x1 := HP4.out.cells.2
      have z0 := HX4.out.cells.1
      have z1 := HX4.out.cells.2
      go_wp2_with fail
      refine (gsame_is HX4.out.2 HP4.out.2 HLA.out).mono ?_
      rintro e w5 ⟨rfl, hb5⟩
      have HB5 := Lib.hid (below_step HB4.out hb5)
      clear hb5
      go_wp2_with fail
      go_ret
      exact ⟨by first | rfl | simp, HB5.out⟩
end
end Go.Proofs.Ythmjeibanofliaa
