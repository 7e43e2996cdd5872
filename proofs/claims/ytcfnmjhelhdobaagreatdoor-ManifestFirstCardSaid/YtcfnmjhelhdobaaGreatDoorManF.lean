/-
  What the document's line (package lockageref08) answers: a line's task, or what is wrong with it. Conditions: a million words at most, of a million bytes, at places below a million; eight names at most.
-/
import Derived.Test.YtcfnmjhelhdobaaGreatDoorManE
import Derived.Deep.RegionWith
import Derived.StillTailTactics
namespace Go.Proofs.YtcfnmjhelhdobaaGreatDoor
open Go.RowKit

section
variable {w : World} {A B : Option Addr} {c c2 : Nat} {l : List Wd} {names : List ByteArray}
set_option maxHeartbeats 8000000 in
set_option maxRecDepth 100000 in
theorem line_is (hA : WdsAt w A l) (hB : TextsAt w B names) (hl1 : 1 ≤ l.length) (hl : l.length ≤ 1000000) (hn : names.length ≤ 8) (hw : ∀ a ∈ l, a.t.size ≤ 1000000 ∧ a.p ≤ 1000000) :
    Calls Tryz.prog 20 #[.slice A l.length c, .slice B names.length c2] w (LineOut w (lineP l names)) := by
  obtain ⟨a, ha⟩ : ∃ a, l[0]? = some a := ⟨_, List.getElem?_eq_getElem (by omega)⟩
  have hga : l.getD 0 default = a := by rw [List.getD_eq_getElem?_getD, ha]; rfl
  have HGA := Lib.hid hga
  obtain ⟨r, hr⟩ : ∃ r, r = lineP l names := ⟨_, rfl⟩
  rw [← hr]
  have HR := Lib.hid hr
  have HA0 := Lib.hid ha
  have HA := Lib.hid hA
  have HB := Lib.hid hB
  have HW := Lib.hid hw
  obtain ⟨ad, eA, u0, u1⟩ := hA.at_ ha
  subst eA
  simp [Addr.add] at u0 u1
  have hab : ad.block < w.heap.size := World.block_lt_of_cell? w _ u0
  have HW0 := Lib.hid (show LnW w ⟨.empty, 0, 5, 0, 0, 0, []⟩ (.slice none 0 0) ((w.alloc (.cells #[.string ⟨#[]⟩, .slice none 0 0, .int .i64 0, .int .i64 0, .int .i64 0, .int .i64 0, .int .u16 0, .slice none 0 0] 62)).alloc (.cells #[.string ⟨#[]⟩, .slice none 0 0, .int .i64 0, .int .i64 5, .int .i64 0, .int .i64 0, .int .u16 0, .slice none 0 0] 62)) from by
    have b1 := (Below.refl w.heap.size w).alloc (Nat.le_refl _) (.cells #[.string ⟨#[]⟩, .slice none 0 0, .int .i64 0, .int .i64 0, .int .i64 0, .int .i64 0, .int .u16 0, .slice none 0 0] 62)
    have b2 := (Below.refl _ (w.alloc (.cells #[.string ⟨#[]⟩, .slice none 0 0, .int .i64 0, .int .i64 0, .int .i64 0, .int .i64 0, .int .u16 0, .slice none 0 0] 62))).alloc (Nat.le_refl _) (.cells #[.string ⟨#[]⟩, .slice none 0 0, .int .i64 0, .int .i64 5, .int .i64 0, .int .i64 0, .int .u16 0, .slice none 0 0] 62)
    have m2 := made_at (w.alloc (.cells #[.string ⟨#[]⟩, .slice none 0 0, .int .i64 0, .int .i64 0, .int .i64 0, .int .i64 0, .int .u16 0, .slice none 0 0] 62)) (.cells #[.string ⟨#[]⟩, .slice none 0 0, .int .i64 0, .int .i64 5, .int .i64 0, .int .i64 0, .int .u16 0, .slice none 0 0] 62)
    rw [World.size_alloc] at m2
    exact ⟨later_at b2 (made_at w _), ⟨m2, none, 0, rfl, fun h => absurd h (by simp)⟩, below_step b1 b2⟩)
  clear hr hA hB hw ha hga
  go_enter Tryz.func20, Tryz.ntmps20
  go_upto_region 2 with fail
  generalize hW : ((w.alloc (.cells #[.string ⟨#[]⟩, .slice none 0 0, .int .i64 0, .int .i64 0, .int .i64 0, .int .i64 0, .int .u16 0, .slice none 0 0] 62)).alloc (.cells #[.string ⟨#[]⟩, .slice none 0 0, .int .i64 0, .int .i64 5, .int .i64 0, .int .i64 0, .int .u16 0, .slice none 0 0] 62)) = W0 at *
  clear hW
  have v0 := cell_later HW0.out.low u0
  have v1 := cell_later HW0.out.low u1
  have r0 := cellH HW0.out.res
  have rf := freeH HW0.out.res
  have x0 := cellH HW0.out.task.row
  have R0 := r0 0
  have R1 := r0 1
  have R2 := r0 2
  have R3 := r0 3
  have R4 := r0 4
  have R5 := r0 5
  have R6 := r0 6
  have R7 := r0 7
  have X0 := x0 0
  have X1 := x0 1
  have X2 := x0 2
  have X3 := x0 3
  have X4 := x0 4
  have X5 := x0 5
  have X6 := x0 6
  have X7 := x0 7
  simp [lnC] at R0 R1 R2 R3 R4 R5 R6 R7 X0 X1 X2 X3 X4 X5 X6 X7
  clear r0 x0
  by_cases h8 : names.length = 8
  · have h8' : (names.length : Int) = 8 := by omega
    have HV := Lib.hid (show r = .inl ⟨16, a.p⟩ from HR.out.trans (by unfold lineP; rw [HGA.out]; exact if_pos h8))
    clear h8
    go_upto_region 3 with fail
    go_region
    go_wp2_with fail
    show bodyPost _ _ _ _ _ (set8 W0 w.heap.size ⟨.empty, 0, 5, 0, 0, 0, []⟩ (.slice none 0 0)).drew
    obtain ⟨hz, hb⟩ := HW0.out.find ⟨.empty, 0, 5, 0, 0, 0, []⟩ (.slice none 0 0)
    generalize (set8 W0 w.heap.size ⟨.empty, 0, 5, 0, 0, 0, []⟩ (.slice none 0 0)).drew = W9 at hz hb ⊢
    refine bodyPost_ret (results_cell3 (fn := Tryz.f20) rfl _ _ w.heap.size 62 (lnC ⟨.empty, 0, 5, 0, 0, 0, []⟩ (.slice none 0 0)) (0, 0) _ rfl hz Tryz.underlying62 rfl info_ln) rfl ⟨hb, ?_⟩
    rw [HV.out]
    exact ⟨_, _, _, _, rfl⟩
  · have hn8 : ((names.length : Int) == 8) = false := beq_eq_false_iff_ne.2 (by omega)
    have H8 := Lib.hid h8
    clear h8
    go_upto_region 4 with fail
    go_cut [34] (fun t wx => wx = W0 ∧ t = .bool (decide (a.t ≠ sTask ∧ a.t ≠ sGate)))
    case first =>
      by_cases h1 : a.t = sTask
      · rw [h1] at v0
        go_wp2_with fail
        go_meet
        exact ⟨rfl, by rw [decide_eq_false (fun h => h.1 h1)]⟩
      · have q1 : (a.t.toList == [116, 97, 115, 107]) = false := (ba_list (t := sTask) rfl).trans (decide_eq_false h1)
        by_cases h2 : a.t = sGate
        · have HH := Lib.hid h2
          rw [h2] at v0 
          clear q1 h1 h2
          go_wp2_with fail
          go_meet
          exact ⟨rfl, by rw [decide_eq_false (fun h => h.2 HH.out)]⟩
        · have q2 : (a.t.toList == [103, 97, 116, 101]) = false := (ba_list (t := sGate) rfl).trans (decide_eq_false h2)
          have HH := Lib.hid (show a.t ≠ sTask ∧ a.t ≠ sGate from ⟨h1, h2⟩)
          clear h1 h2
          go_wp2_with fail
          go_meet
          exact ⟨rfl, by rw [decide_eq_true HH.out]⟩
    case rest =>
    obtain ⟨hwc, rfl⟩ := hcut
    subst hwc
    by_cases ht : a.t ≠ sTask ∧ a.t ≠ sGate
    · have HV := Lib.hid (show r = .inl ⟨17, a.p⟩ from HR.out.trans (line_err1 HA0.out H8.out ht))
      rw [decide_eq_true ht]
      clear ht
      go_upto_region 5 with fail
      go_region
      go_wp2_with fail
      show bodyPost _ _ _ _ _ (set8 wc w.heap.size ⟨.empty, 0, 5, 0, 0, 0, []⟩ (.slice none 0 0)).drew
      obtain ⟨hz, hb⟩ := HW0.out.find ⟨.empty, 0, 5, 0, 0, 0, []⟩ (.slice none 0 0)
      generalize (set8 wc w.heap.size ⟨.empty, 0, 5, 0, 0, 0, []⟩ (.slice none 0 0)).drew = W9 at hz hb ⊢
      refine bodyPost_ret (results_cell3 (fn := Tryz.f20) rfl _ _ w.heap.size 62 (lnC ⟨.empty, 0, 5, 0, 0, 0, []⟩ (.slice none 0 0)) (0, 0) _ rfl hz Tryz.underlying62 rfl info_ln) rfl ⟨hb, ?_⟩
      rw [HV.out]
      exact ⟨_, _, _, _, rfl⟩
    · rw [decide_eq_false ht]
      have HT := Lib.hid ht
      clear ht
      by_cases hl2 : l.length < 2
      · have HV := Lib.hid (show r = .inl ⟨3, a.p⟩ from HR.out.trans (line_err2 HA0.out H8.out HT.out hl2))
        go_upto_region 7 with fail
        go_region
        go_wp2_with fail
        show bodyPost _ _ _ _ _ (set8 wc w.heap.size ⟨.empty, 0, 5, 0, 0, 0, []⟩ (.slice none 0 0)).drew
        obtain ⟨hz, hb⟩ := HW0.out.find ⟨.empty, 0, 5, 0, 0, 0, []⟩ (.slice none 0 0)
        generalize (set8 wc w.heap.size ⟨.empty, 0, 5, 0, 0, 0, []⟩ (.slice none 0 0)).drew = W9 at hz hb ⊢
        refine bodyPost_ret (results_cell3 (fn := Tryz.f20) rfl _ _ w.heap.size 62 (lnC ⟨.empty, 0, 5, 0, 0, 0, []⟩ (.slice none 0 0)) (0, 0) _ rfl hz Tryz.underlying62 rfl info_ln) rfl ⟨hb, ?_⟩
        rw [HV.out]
        exact ⟨_, _, _, _, rfl⟩
      · obtain ⟨b, hb⟩ : ∃ b, l[1]? = some b := ⟨_, List.getElem?_eq_getElem (by omega)⟩
        have HB0 := Lib.hid hb
        obtain ⟨_, e2, q0, q1⟩ := (HA.out.later HW0.out.low).at_ hb
        injection e2 with e2
        subst e2
        simp [Addr.add] at q0 q1
        obtain ⟨hbs, hbp⟩ := HW.out b (List.mem_of_getElem? hb)
        clear hb
        have RN := Lib.hid (fun w : World => refname_is b.t hbs w)
        obtain ⟨nb, hnb⟩ : ∃ nb, nb = nameP b.t := ⟨_, rfl⟩
        rw [← hnb] at RN
        have HNB := Lib.hid hnb
        clear hnb
        go_wp2_with fail
        refine (RN.out _).mono ?_
        rintro e w1 ⟨rfl, hw1⟩
        subst hw1
        clear RN
        cases nb with
        | false =>
          have HV := Lib.hid (show r = .inl ⟨15, b.p⟩ from HR.out.trans (line_err3 HA0.out HB0.out H8.out HT.out HNB.out.symm))
          go_upto_region 9 with fail
          go_region
          go_wp2_with fail
          show bodyPost _ _ _ _ _ (set8 wc w.heap.size ⟨.empty, 0, 5, 0, 0, 0, []⟩ (.slice none 0 0)).drew
          obtain ⟨hz, hb⟩ := HW0.out.find ⟨.empty, 0, 5, 0, 0, 0, []⟩ (.slice none 0 0)
          generalize (set8 wc w.heap.size ⟨.empty, 0, 5, 0, 0, 0, []⟩ (.slice none 0 0)).drew = W9 at hz hb ⊢
          refine bodyPost_ret (results_cell3 (fn := Tryz.f20) rfl _ _ w.heap.size 62 (lnC ⟨.empty, 0, 5, 0, 0, 0, []⟩ (.slice none 0 0)) (0, 0) _ rfl hz Tryz.underlying62 rfl info_ln) rfl ⟨hb, ?_⟩
          rw [HV.out]
          exact ⟨_, _, _, _, rfl⟩
        | true =>
          obtain ⟨fn, hfn⟩ : ∃ fn, fn = findP names b.t := ⟨_, rfl⟩
          have RF := Lib.hid (fun (W : World) (h : TextsAt W B names) => find_is (c := c2) h (by omega) b.t)
          rw [← hfn] at RF
          have HMB := Lib.hid (show memB b.t names = fn.isSome by rw [memB_find, hfn])
          clear hfn
          go_wp2_with fail
          refine (RF.out _ (HB.out.later HW0.out.low)).mono ?_
          rintro e w1 ⟨rfl, hw1⟩
          subst hw1
          clear RF
          cases fn with
          | some kk =>
            have HV := Lib.hid (show r = .inl ⟨7, b.p⟩ from HR.out.trans (line_err4 HA0.out HB0.out H8.out HT.out HNB.out.symm HMB.out))
            dsimp only [idxI]
            have hk0 : (0 : Int) ≤ kk := by omega
            go_upto_region 11 with fail
            go_region
            go_wp2_with fail
            show bodyPost _ _ _ _ _ (set8 wc w.heap.size ⟨.empty, 0, 5, 0, 0, 0, []⟩ (.slice none 0 0)).drew
            obtain ⟨hz, hb⟩ := HW0.out.find ⟨.empty, 0, 5, 0, 0, 0, []⟩ (.slice none 0 0)
            generalize (set8 wc w.heap.size ⟨.empty, 0, 5, 0, 0, 0, []⟩ (.slice none 0 0)).drew = W9 at hz hb ⊢
            refine bodyPost_ret (results_cell3 (fn := Tryz.f20) rfl _ _ w.heap.size 62 (lnC ⟨.empty, 0, 5, 0, 0, 0, []⟩ (.slice none 0 0)) (0, 0) _ rfl hz Tryz.underlying62 rfl info_ln) rfl ⟨hb, ?_⟩
            rw [HV.out]
            exact ⟨_, _, _, _, rfl⟩
          | none =>
            dsimp only [idxI]
            have HP := Lib.hid (show r = endP (decide (a.t = sGate)) a.p (pairsP (decide (a.t = sGate)) [] (ln0 b.t) (l.drop 2)) from HR.out.trans (line_pairs HA0.out HB0.out H8.out HT.out HNB.out.symm HMB.out))
            have xf := freeH HW0.out.task.row
            go_upto_region 13 with fail
            have HW1 := Lib.hid (HW0.out.name b.t)
            generalize hW1 : wc.setCell ⟨w.heap.size + 1, 0, none⟩ (.string b.t) = W1 at HW1
            clear hW1 v0 v1 rf R0 R1 R2 R3 R4 R5 R6 R7 X0 X1 X2 X3 X4 X5 X6 X7 xf q0 q1 HW0
            have v0 := cell_later HW1.out.low u0
            have HSE := Lib.hid (World.ownsRow_nil W1 (w.heap.size + 2) 9 1)
            obtain ⟨i0, hi0, hz0, hz1, hz2⟩ := info_all info_str3
            go_upto_region 14 with fail
            rw [ba_list (t := sGate) rfl]
            generalize decide (a.t = sGate) = g at HP ⊢
            go_wp2_with fail
            go_loopw [9, 10] (fun v i wr => ∃ (k : Nat) (seen : List ByteArray) (x : LnP) (av : Value), i = .int .i64 k ∧ 2 ≤ k ∧ k ≤ l.length ∧ r = endP g a.p (pairsP g seen x (l.drop k)) ∧ LnW w x av wr ∧ wr.ownsRow (w.heap.size + 2) 9 1 v seen.length (seen.map Value.string) ∧ seen.length ≤ k) (fun _ i _ => l.length - (intOf i).toNat)
            case atStart => exact ⟨2, [], ln0 b.t, .slice none 0 0, rfl, Nat.le_refl _, by omega, HP.out, HW1.out, HSE.out, Nat.zero_le _⟩
            case round =>
              obtain ⟨k, seen, x, av, rfl, hk2, hkl, hrr, hlw, hown, hsl⟩ := hrel
              obtain ⟨Aa, ca, hav, _⟩ := hlw.task.aft
              subst hav
              have HRR := Lib.hid hrr
              have HLW := Lib.hid hlw
              have HOWN := Lib.hid hown
              have HSL := Lib.hid hsl
              obtain ⟨A9, c9, rfl⟩ := own_slice hown
              clear hrr hlw hown hsl HW1 HSE HP v0
              by_cases hlt : k < l.length
              · obtain ⟨y, hy⟩ : ∃ y, l[k]? = some y := ⟨_, List.getElem?_eq_getElem hlt⟩
                have HY := Lib.hid hy
                obtain ⟨_, e2, p0, p1⟩ := (HA.out.later HLW.out.low).at_ hy
                injection e2 with e2
                subst e2
                obtain ⟨hys, hyp⟩ := HW.out y (List.mem_of_getElem? hy)
                clear hy
                have lw := (Below.refl wr.heap.size wr).alloc (Nat.le_refl _) (.cells ((wordsP g).map Value.string).toArray 9)
                have p0w := cell_later lw p0
                have TM := Lib.hid (show TextsAt (wr.alloc (.cells ((wordsP g).map Value.string).toArray 9)).drew (some ⟨wr.heap.size, 0, none⟩) (wordsP g) from texts_made wr (wordsP g) 9)
                have hwl : (wordsP g).length ≤ 1000000 := by cases g <;> decide
                clear lw
                go_upto_region 18 with fail
                go_cut [96] (fun t wx => wx = (wr.alloc (.cells ((wordsP g).map Value.string).toArray 9)).drew ∧ t = .bool (decide (idxI (findP (wordsP g) y.t) < 0)))
                case first =>
                  go_region_with (first
                    | (go_at_call 40; refine (words_is g _).mono ?_; rintro e wm ⟨cw, rfl, rfl⟩)
                    | (go_at_call 21; refine (find_is TM.out hwl y.t).mono ?_; rintro e wm ⟨rfl, rfl⟩))
                  all_goals (go_wp2_with fail; go_meet; exact ⟨rfl, rfl⟩)
                case rest =>
                obtain ⟨hwx, rfl⟩ := hcut
                rw [idxI_neg, ← memB_find]
                have lw := (Below.refl wr.heap.size wr).alloc (Nat.le_refl _) (.cells ((wordsP g).map Value.string).toArray 9)
                have lw := lw.drew
                rw [← hwx] at lw
                clear hwx TM p0w
                have HL2 := Lib.hid (HLW.out.later lw)
                have HO2 := Lib.hid (own_agree HOWN.out (fun q _ hq => lw.block q hq))
                have p0' := cell_later lw p0
                have p1' := cell_later lw p1
                clear lw HLW HOWN p0 p1
                have hyb : (ad.add (k * 2)).block < w.heap.size := by
                  have := World.block_lt_of_cell? w _ ((HA.out.at_ HY.out).choose_spec.2.1)
                  have e3 := (HA.out.at_ HY.out).choose_spec.1
                  injection e3 with e3
                  rw [← e3] at this
                  exact this
                obtain ⟨m1, hm1⟩ : ∃ m, m = memB y.t (wordsP g) := ⟨_, rfl⟩
                rw [← hm1]
                have HM1 := Lib.hid hm1
                clear hm1
                cases m1 with
                | false =>
                  have HV := Lib.hid (show r = .inl ⟨17, y.p⟩ by rw [HRR.out, drop_at HY.out, pairs_17 HM1.out.symm]; rfl)
                  have r0 := cellH HL2.out.res
                  have rf := freeH HL2.out.res
                  have x0 := cellH HL2.out.task.row
                  have R0 := r0 0
                  have R1 := r0 1
                  have R2 := r0 2
                  have R3 := r0 3
                  have R4 := r0 4
                  have R5 := r0 5
                  have R6 := r0 6
                  have R7 := r0 7
                  have X0 := x0 0
                  have X1 := x0 1
                  have X2 := x0 2
                  have X3 := x0 3
                  have X4 := x0 4
                  have X5 := x0 5
                  have X6 := x0 6
                  have X7 := x0 7
                  simp [lnC] at R0 R1 R2 R3 R4 R5 R6 R7 X0 X1 X2 X3 X4 X5 X6 X7
                  clear r0 x0
                  go_upto_region 19 with fail
                  go_region
                  go_wp2_with fail
                  show bodyPost _ _ _ _ _ (set8 wc w.heap.size x (.slice Aa x.after.length ca)).drew
                  obtain ⟨hz, hb⟩ := HL2.out.find x (.slice Aa x.after.length ca)
                  generalize (set8 wc w.heap.size x (.slice Aa x.after.length ca)).drew = W9 at hz hb ⊢
                  refine bodyPost_ret (results_cell3 (fn := Tryz.f20) rfl _ _ w.heap.size 62 (lnC x (.slice Aa x.after.length ca)) (0, 0) _ rfl hz Tryz.underlying62 rfl info_ln) rfl ⟨hb, ?_⟩
                  rw [HV.out]
                  exact ⟨_, _, _, _, rfl⟩
                | true =>
                  obtain ⟨A8, c8, e8, hTX⟩ := own_texts HO2.out
                  injection e8 with e8 _ e9
                  subst e8 e9
                  have hsl : seen.length ≤ 1000000 := by have := HSL.out; omega
                  obtain ⟨fn, hfn⟩ : ∃ fn, fn = findP seen y.t := ⟨_, rfl⟩
                  have RF := Lib.hid (find_is (c := c9) hTX hsl y.t)
                  rw [← hfn] at RF
                  have HM2 := Lib.hid (show memB y.t seen = fn.isSome by rw [memB_find, hfn])
                  clear hfn hTX
                  go_wp2_with fail
                  refine RF.out.mono ?_
                  rintro e w1 ⟨rfl, hw1⟩
                  subst hw1
                  clear RF
                  cases fn with
                  | some kk =>
                    have HV := Lib.hid (show r = .inl ⟨7, y.p⟩ by rw [HRR.out, drop_at HY.out, pairs_7 HM1.out.symm HM2.out]; rfl)
                    dsimp only [idxI]
                    have hk0 : (0 : Int) ≤ kk := by omega
                    have r0 := cellH HL2.out.res
                    have rf := freeH HL2.out.res
                    have x0 := cellH HL2.out.task.row
                    have R0 := r0 0
                    have R1 := r0 1
                    have R2 := r0 2
                    have R3 := r0 3
                    have R4 := r0 4
                    have R5 := r0 5
                    have R6 := r0 6
                    have R7 := r0 7
                    have X0 := x0 0
                    have X1 := x0 1
                    have X2 := x0 2
                    have X3 := x0 3
                    have X4 := x0 4
                    have X5 := x0 5
                    have X6 := x0 6
                    have X7 := x0 7
                    simp [lnC] at R0 R1 R2 R3 R4 R5 R6 R7 X0 X1 X2 X3 X4 X5 X6 X7
                    clear r0 x0
                    go_upto_region 21 with fail
                    go_region
                    go_wp2_with fail
                    show bodyPost _ _ _ _ _ (set8 wc w.heap.size x (.slice Aa x.after.length ca)).drew
                    obtain ⟨hz, hb⟩ := HL2.out.find x (.slice Aa x.after.length ca)
                    generalize (set8 wc w.heap.size x (.slice Aa x.after.length ca)).drew = W9 at hz hb ⊢
                    refine bodyPost_ret (results_cell3 (fn := Tryz.f20) rfl _ _ w.heap.size 62 (lnC x (.slice Aa x.after.length ca)) (0, 0) _ rfl hz Tryz.underlying62 rfl info_ln) rfl ⟨hb, ?_⟩
                    rw [HV.out]
                    exact ⟨_, _, _, _, rfl⟩
                  | none =>
                    dsimp only [idxI]
                    by_cases hlast : k + 1 = l.length
                    · have hlast' : ((k : Int) + 1 == (l.length : Int)) = true := by rw [beq_iff_eq]; omega
                      have HV := Lib.hid (show r = .inl ⟨3, y.p⟩ by rw [HRR.out, drop_at HY.out, List.drop_eq_nil_of_le (by omega : l.length ≤ k + 1), pairs_3 HM1.out.symm HM2.out]; rfl)
                      have r0 := cellH HL2.out.res
                      have rf := freeH HL2.out.res
                      have x0 := cellH HL2.out.task.row
                      have R0 := r0 0
                      have R1 := r0 1
                      have R2 := r0 2
                      have R3 := r0 3
                      have R4 := r0 4
                      have R5 := r0 5
                      have R6 := r0 6
                      have R7 := r0 7
                      have X0 := x0 0
                      have X1 := x0 1
                      have X2 := x0 2
                      have X3 := x0 3
                      have X4 := x0 4
                      have X5 := x0 5
                      have X6 := x0 6
                      have X7 := x0 7
                      simp [lnC] at R0 R1 R2 R3 R4 R5 R6 R7 X0 X1 X2 X3 X4 X5 X6 X7
                      clear r0 x0
                      go_upto_region 23 with fail
                      go_region
                      go_wp2_with fail
                      show bodyPost _ _ _ _ _ (set8 wc w.heap.size x (.slice Aa x.after.length ca)).drew
                      obtain ⟨hz, hb⟩ := HL2.out.find x (.slice Aa x.after.length ca)
                      generalize (set8 wc w.heap.size x (.slice Aa x.after.length ca)).drew = W9 at hz hb ⊢
                      refine bodyPost_ret (results_cell3 (fn := Tryz.f20) rfl _ _ w.heap.size 62 (lnC x (.slice Aa x.after.length ca)) (0, 0) _ rfl hz Tryz.underlying62 rfl info_ln) rfl ⟨hb, ?_⟩
                      rw [HV.out]
                      exact ⟨_, _, _, _, rfl⟩
                    · have hlast' : ((k : Int) + 1 == (l.length : Int)) = false := beq_eq_false_iff_ne.2 (by omega)
                      obtain ⟨z, hz⟩ : ∃ z, l[k + 1]? = some z := ⟨_, List.getElem?_eq_getElem (by omega)⟩
                      have HZ := Lib.hid hz
                      obtain ⟨hzs, hzp⟩ := HW.out z (List.mem_of_getElem? hz)
                      have HDR := Lib.hid (show l.drop k = y :: z :: l.drop (k + 2) by rw [drop_at HY.out, drop_at hz])
                      clear hz
                      have l2 := (Below.refl wc.heap.size wc).alloc (Nat.le_refl _) (.cells #[.string y.t] 9)
                      have HL3 := Lib.hid (HL2.out.later l2)
                      have HO3 := Lib.hid (own_agree HO2.out (fun q _ hq => l2.block q hq))
                      have HNW := Lib.hid (cells_new wc [.string y.t] 9)
                      have hbase : w.heap.size + 2 ≤ (wc.alloc (.cells #[.string y.t] 9)).heap.size := by
                        have := (Array.getElem?_eq_some_iff.1 HL3.out.task.row).1
                        omega
                      have ib1 : (k : Int) + 1 < (l.length : Int) := by omega
                      have ib2 : (0 : Int) ≤ (k : Int) + 1 := by omega
                      have ib3 : ((k : Int) + 1).toNat = k + 1 := by omega
                      have ib4 : IntKind.i64.wrap ((k : Int) + 1) = (k : Int) + 1 := by rw [IntKind.wrap_i64] <;> omega
                      clear l2 hlast
                      go_upto_region 25 with (at_builtin; refine wpList_append_own _ rfl (.tmp 128) (.tmp 134) 59 rfl (w.heap.size + 2) 9 i0 _ 1 16 Tryz.underlying59 hi0 hz0 hz1 hz2 rfl (by omega) (.slice A9 seen.length c9) seen.length (seen.map Value.string) rfl HO3.out ⟨wc.heap.size, 0, none⟩ 1 1 [.string y.t] rfl rfl HNW.out (by simp [Value.oneCell']) (by unfold maxLen; omega) (by omega) hbase ?_; intro v4 w4 hown4 hg4 _; have HL4 := Lib.hid (HL3.out.grown HO3.out hg4); have HO4 := Lib.hid hown4; clear hown4 hg4)
                      obtain ⟨A10, c10, rfl⟩ := own_slice HO4.out
                      clear HL2 HO2 HL3 HO3 HNW p0' p1' hbase
                      obtain ⟨_, e4, q0, q1⟩ := (HA.out.later HL4.out.low).at_ HY.out
                      injection e4 with e4
                      subst e4
                      obtain ⟨_, e5, s0, s1⟩ := (HA.out.later HL4.out.low).at_ HZ.out
                      injection e5 with e5
                      subst e5
                      have VI := Lib.hid (value_is (w := w4.drew) (HL4.out.task.later (Below.refl _ _).drew) HM1.out.symm z.t z.p hzs hzp)
                      obtain ⟨vr, hvr⟩ : ∃ vr, vr = valueP x y.t ⟨z.t, z.p⟩ := ⟨_, rfl⟩
                      rw [← hvr] at VI
                      have HVR := Lib.hid hvr
                      clear hvr
                      go_cut [11, 12] (fun e1 e2 wx => ∃ f1 f2 : Int, e1 = .int .i64 f1 ∧ e2 = .int .i64 f2 ∧ Only1 (w.heap.size + 1) w4 wx ∧ ∃ av, match vr with
                        | .inl f => f1 = f.e ∧ f2 = f.p ∧ LineAt wx (w.heap.size + 1) x av
                        | .inr y => f1 = 0 ∧ f2 = 0 ∧ LineAt wx (w.heap.size + 1) y av)
                      case first =>
                        cases vr with
                        | inl f =>
                          go_region_with (go_at_call 41; refine VI.out.mono ?_; rintro e wm ⟨ho, rfl, av', hl⟩)
                          all_goals (go_wp2_with fail; go_meet; exact ⟨_, _, rfl, rfl, ⟨ho.os, ho.tape, ho.output, ho.size, ho.block⟩, av', rfl, rfl, hl⟩)
                        | inr y' =>
                          go_region_with (go_at_call 41; refine VI.out.mono ?_; rintro e wm ⟨ho, rfl, av', hl⟩)
                          all_goals (go_wp2_with fail; go_meet; exact ⟨_, _, rfl, rfl, ⟨ho.os, ho.tape, ho.output, ho.size, ho.block⟩, av', rfl, rfl, hl⟩)
                      case rest =>
                      obtain ⟨f1, f2, rfl, rfl, ho, av', hv⟩ := hcut
                      cases vr with
                      | inl f =>
                        obtain ⟨rfl, rfl, hl⟩ := hv
                        obtain ⟨Ab, cb, hab2, _⟩ := hl.aft
                        subst hab2
                        have HL5 := Lib.hid (HL4.out.only ho hl)
                        have hne : (f.e : Int) ≠ 0 := value_err HVR.out.symm
                        have HV := Lib.hid (show r = .inl f by rw [HRR.out, HDR.out, pairs_bad HM1.out.symm HM2.out HVR.out.symm]; rfl)
                        clear ho hl q0 q1 s0 s1
                        have r0 := cellH HL5.out.res
                        have rf := freeH HL5.out.res
                        have x0 := cellH HL5.out.task.row
                        have R0 := r0 0
                        have R1 := r0 1
                        have R2 := r0 2
                        have R3 := r0 3
                        have R4 := r0 4
                        have R5 := r0 5
                        have R6 := r0 6
                        have R7 := r0 7
                        have X0 := x0 0
                        have X1 := x0 1
                        have X2 := x0 2
                        have X3 := x0 3
                        have X4 := x0 4
                        have X5 := x0 5
                        have X6 := x0 6
                        have X7 := x0 7
                        simp [lnC] at R0 R1 R2 R3 R4 R5 R6 R7 X0 X1 X2 X3 X4 X5 X6 X7
                        clear r0 x0
                        go_wp2_with fail
                        show bodyPost _ _ _ _ _ (set8 wc w.heap.size x (.slice Ab x.after.length cb))
                        obtain ⟨hz, hb⟩ := HL5.out.fin x (.slice Ab x.after.length cb)
                        generalize (set8 wc w.heap.size x (.slice Ab x.after.length cb)) = W9 at hz hb ⊢
                        refine bodyPost_ret (results_cell3 (fn := Tryz.f20) rfl _ _ w.heap.size 62 (lnC x (.slice Ab x.after.length cb)) (0, 0) _ rfl hz Tryz.underlying62 rfl info_ln) rfl ⟨hb, ?_⟩
                        rw [HV.out]
                        exact ⟨_, _, _, _, rfl⟩
                      | inr x' =>
                        obtain ⟨rfl, rfl, hl⟩ := hv
                        have HL5 := Lib.hid (HL4.out.only ho hl)
                        have HO5 := Lib.hid (own_only HO4.out HL4.out.task ho)
                        have HV := Lib.hid (show r = endP g a.p (pairsP g (seen ++ [y.t]) x' (l.drop (k + 2))) by rw [HRR.out, HDR.out, pairs_good HM1.out.symm HM2.out HVR.out.symm])
                        clear ho hl q0 q1 s0 s1
                        go_wp2_with fail
                        go_roundw
                        case rel => exact ⟨k + 2, seen ++ [y.t], x', av', by go_num, by omega, by omega, HV.out, HL5.out, by rw [List.length_append, List.map_append]; exact HO5.out, by have := HSL.out; simp; omega⟩
                        case measure => simp [intOf]; omega
              · skip
                have hkl2 : k = l.length := by omega
                have HE := Lib.hid (show r = endP g a.p (.inr (x, seen)) by rw [HRR.out, List.drop_eq_nil_of_le (by omega : l.length ≤ k), pairsP])
                have v0 := cell_later HLW.out.low u0
                have v1 := cell_later HLW.out.low u1
                obtain ⟨A8, c8, e8, hTX⟩ := own_texts HOWN.out
                injection e8 with e8 _ e9
                subst e8 e9
                have hsl : seen.length ≤ 1000000 := by have := HSL.out; omega
                have F1 := Lib.hid (find_is (c := c9) hTX hsl sTo)
                have F2 := Lib.hid (find_is (c := c9) hTX hsl sNeed)
                have M1 := Lib.hid (memB_find sTo seen)
                have M2 := Lib.hid (memB_find sNeed seen)
                generalize findP seen sTo = o1 at F1 M1
                generalize findP seen sNeed = o2 at F2 M2
                clear hTX HRR
                subst hkl2
                cases g with
                | false =>
                  have HV := Lib.hid (show r = .inr x from HE.out.trans rfl)
                  have r0 := cellH HLW.out.res
                  have rf := freeH HLW.out.res
                  have x0 := cellH HLW.out.task.row
                  have R0 := r0 0
                  have R1 := r0 1
                  have R2 := r0 2
                  have R3 := r0 3
                  have R4 := r0 4
                  have R5 := r0 5
                  have R6 := r0 6
                  have R7 := r0 7
                  have X0 := x0 0
                  have X1 := x0 1
                  have X2 := x0 2
                  have X3 := x0 3
                  have X4 := x0 4
                  have X5 := x0 5
                  have X6 := x0 6
                  have X7 := x0 7
                  simp [lnC] at R0 R1 R2 R3 R4 R5 R6 R7 X0 X1 X2 X3 X4 X5 X6 X7
                  clear r0 x0
                  go_wp2_with fail
                  show bodyPost _ _ _ _ _ (set8 wr w.heap.size x (.slice Aa x.after.length ca))
                  obtain ⟨hz, hb⟩ := HLW.out.fin x (.slice Aa x.after.length ca)
                  have hg := aft_set8 HLW.out.task.aft HLW.out.res (y := x) (au := .slice Aa x.after.length ca)
                  generalize (set8 wr w.heap.size x (.slice Aa x.after.length ca)) = W9 at hz hb hg ⊢
                  refine bodyPost_ret (results_cell3 (fn := Tryz.f20) rfl _ _ w.heap.size 62 (lnC x (.slice Aa x.after.length ca)) (0, 0) _ rfl hz Tryz.underlying62 rfl info_ln) rfl ⟨hb, ?_⟩
                  rw [HV.out]
                  exact ⟨_, rfl, hg⟩
                | true =>
                  cases o1 with
                  | none =>
                    have HV := Lib.hid (show r = .inl ⟨3, a.p⟩ from HE.out.trans (if_pos ⟨rfl, .inl M1.out⟩))
                    go_wp2_with fail
                    refine F1.out.mono ?_
                    rintro e w1 ⟨rfl, hw1⟩
                    subst hw1
                    dsimp only [idxI]
                    clear F1 F2
                    have r0 := cellH HLW.out.res
                    have rf := freeH HLW.out.res
                    have x0 := cellH HLW.out.task.row
                    have R0 := r0 0
                    have R1 := r0 1
                    have R2 := r0 2
                    have R3 := r0 3
                    have R4 := r0 4
                    have R5 := r0 5
                    have R6 := r0 6
                    have R7 := r0 7
                    have X0 := x0 0
                    have X1 := x0 1
                    have X2 := x0 2
                    have X3 := x0 3
                    have X4 := x0 4
                    have X5 := x0 5
                    have X6 := x0 6
                    have X7 := x0 7
                    simp [lnC] at R0 R1 R2 R3 R4 R5 R6 R7 X0 X1 X2 X3 X4 X5 X6 X7
                    clear r0 x0
                    go_upto_region 29 with fail
                    go_region
                    go_wp2_with fail
                    show bodyPost _ _ _ _ _ (set8 wr w.heap.size x (.slice Aa x.after.length ca)).drew
                    obtain ⟨hz, hb⟩ := HLW.out.find x (.slice Aa x.after.length ca)
                    generalize (set8 wr w.heap.size x (.slice Aa x.after.length ca)).drew = W9 at hz hb ⊢
                    refine bodyPost_ret (results_cell3 (fn := Tryz.f20) rfl _ _ w.heap.size 62 (lnC x (.slice Aa x.after.length ca)) (0, 0) _ rfl hz Tryz.underlying62 rfl info_ln) rfl ⟨hb, ?_⟩
                    rw [HV.out]
                    exact ⟨_, _, _, _, rfl⟩
                  | some k1 =>
                    have hk1 : ¬ (k1 : Int) < 0 := by omega
                    go_wp2_with fail
                    refine F1.out.mono ?_
                    rintro e w1 ⟨rfl, hw1⟩
                    subst hw1
                    dsimp only [idxI]
                    go_wp2_with fail
                    refine F2.out.mono ?_
                    rintro e w1 ⟨rfl, hw1⟩
                    subst hw1
                    clear F1 F2
                    cases o2 with
                    | none =>
                      have HV := Lib.hid (show r = .inl ⟨3, a.p⟩ from HE.out.trans (if_pos ⟨rfl, .inr M2.out⟩))
                      dsimp only [idxI]
                      have r0 := cellH HLW.out.res
                      have rf := freeH HLW.out.res
                      have x0 := cellH HLW.out.task.row
                      have R0 := r0 0
                      have R1 := r0 1
                      have R2 := r0 2
                      have R3 := r0 3
                      have R4 := r0 4
                      have R5 := r0 5
                      have R6 := r0 6
                      have R7 := r0 7
                      have X0 := x0 0
                      have X1 := x0 1
                      have X2 := x0 2
                      have X3 := x0 3
                      have X4 := x0 4
                      have X5 := x0 5
                      have X6 := x0 6
                      have X7 := x0 7
                      simp [lnC] at R0 R1 R2 R3 R4 R5 R6 R7 X0 X1 X2 X3 X4 X5 X6 X7
                      clear r0 x0
                      go_upto_region 29 with fail
                      go_region
                      go_wp2_with fail
                      show bodyPost _ _ _ _ _ (set8 wr w.heap.size x (.slice Aa x.after.length ca)).drew
                      obtain ⟨hz, hb⟩ := HLW.out.find x (.slice Aa x.after.length ca)
                      generalize (set8 wr w.heap.size x (.slice Aa x.after.length ca)).drew = W9 at hz hb ⊢
                      refine bodyPost_ret (results_cell3 (fn := Tryz.f20) rfl _ _ w.heap.size 62 (lnC x (.slice Aa x.after.length ca)) (0, 0) _ rfl hz Tryz.underlying62 rfl info_ln) rfl ⟨hb, ?_⟩
                      rw [HV.out]
                      exact ⟨_, _, _, _, rfl⟩
                    | some k2 =>
                      have hk2' : ¬ (k2 : Int) < 0 := by omega
                      have HV := Lib.hid (show r = .inr x from HE.out.trans (if_neg (fun h => by rw [M1.out, M2.out] at h; exact absurd h.2 (by simp))))
                      dsimp only [idxI]
                      have r0 := cellH HLW.out.res
                      have rf := freeH HLW.out.res
                      have x0 := cellH HLW.out.task.row
                      have R0 := r0 0
                      have R1 := r0 1
                      have R2 := r0 2
                      have R3 := r0 3
                      have R4 := r0 4
                      have R5 := r0 5
                      have R6 := r0 6
                      have R7 := r0 7
                      have X0 := x0 0
                      have X1 := x0 1
                      have X2 := x0 2
                      have X3 := x0 3
                      have X4 := x0 4
                      have X5 := x0 5
                      have X6 := x0 6
                      have X7 := x0 7
                      simp [lnC] at R0 R1 R2 R3 R4 R5 R6 R7 X0 X1 X2 X3 X4 X5 X6 X7
                      clear r0 x0
                      go_wp2_with fail
                      show bodyPost _ _ _ _ _ (set8 wr w.heap.size x (.slice Aa x.after.length ca))
                      obtain ⟨hz, hb⟩ := HLW.out.fin x (.slice Aa x.after.length ca)
                      have hg := aft_set8 HLW.out.task.aft HLW.out.res (y := x) (au := .slice Aa x.after.length ca)
                      generalize (set8 wr w.heap.size x (.slice Aa x.after.length ca)) = W9 at hz hb hg ⊢
                      refine bodyPost_ret (results_cell3 (fn := Tryz.f20) rfl _ _ w.heap.size 62 (lnC x (.slice Aa x.after.length ca)) (0, 0) _ rfl hz Tryz.underlying62 rfl info_ln) rfl ⟨hb, ?_⟩
                      rw [HV.out]
                      exact ⟨_, rfl, hg⟩
end
end Go.Proofs.YtcfnmjhelhdobaaGreatDoor
