/-
  The program's run: Settle. Conditions: a run of a pipeline that may be, small numbers.
-/
import Derived.Test.YtfjaibaidpbppaaGreatDoorRuI
namespace Go.Proofs.YtfjaibaidpbppaaGreatDoor
open Go.RowKit

/-- The first k of them are settled. -/
def SetK (now : Int) (ts : List TkP) (ps ps' : List PlP) (k : Nat) : Prop := ps'.length = ps.length ∧ ∀ (i : Nat) t p, ts[i]? = some t → ps[i]? = some p → ps'[i]? = some (if i < k then setPl now t p else p)
theorem SetK.next {now : Int} {ts : List TkP} {ps ps' : List PlP} {k : Nat} {t : TkP} {p : PlP} (h : SetK now ts ps ps' k) (ht : ts[k]? = some t) (hp : ps[k]? = some p) {q : PlP} (hq : q = setPl now t p) : SetK now ts ps (ps'.set k q) (k + 1) := by
  have hk := (List.getElem?_eq_some_iff.1 hp).1
  refine ⟨by rw [List.length_set]; exact h.1, fun i u r hu hr => ?_⟩
  by_cases e : i = k
  · subst e
    rw [hu] at ht
    rw [hr] at hp
    injection ht with ht
    injection hp with hp
    subst ht hp
    rw [List.getElem?_set_self (by rw [h.1]; exact hk), if_pos (Nat.lt_succ_self _), hq]
  · rw [List.getElem?_set_ne (fun e2 => e e2.symm), h.2 i u r hu hr]
    congr 1
    by_cases h1 : i < k
    · rw [if_pos h1, if_pos (by omega)]
    · rw [if_neg h1, if_neg (by omega)]
theorem SetK.skip {now : Int} {ts : List TkP} {ps ps' : List PlP} {k : Nat} {t : TkP} {p : PlP} (h : SetK now ts ps ps' k) (ht : ts[k]? = some t) (hp : ps[k]? = some p) (hq : setPl now t p = p) : SetK now ts ps ps' (k + 1) := by
  have h2 := h.next ht hp hq.symm
  have h3 := h.2 k t p ht hp
  rw [if_neg (Nat.lt_irrefl _)] at h3
  rwa [set_same h3] at h2
theorem SetK.all {now : Int} {ts : List TkP} {ps ps' : List PlP} (h : SetK now ts ps ps' ts.length) (hl : ps.length = ts.length) : ps' = List.zipWith (setPl now) ts ps := by
  refine List.ext_getElem? fun i => ?_
  rw [List.getElem?_zipWith]
  by_cases hi : i < ts.length
  · have h1 := List.getElem?_eq_getElem (l := ts) (i := i) hi
    have h2 := List.getElem?_eq_getElem (l := ps) (i := i) (by omega)
    rw [h.2 i _ _ h1 h2, if_pos hi, h1, h2]
  · rw [List.getElem?_eq_none (by rw [h.1]; omega), List.getElem?_eq_none (by omega)]
section
variable {w : World} {X : List Nat} {R B g c d : Nat} {z : RunP} {vs : List Value}
theorem run_with (z : RunP) : ({ z with ps := z.ps } : RunP) = z := rfl
theorem set6_put {W : World} {k : Nat} {p : PlP} {ps : List PlP} (h : RnC W X R B g c d { z with ps := ps } vs) (hp : ps[k]? = some p) (t : TrP) : RnC (set6 W B (k * 9) t) X R B g c d { z with ps := ps.set k { p with tr := t } } vs := h.setTry hp t
set_option maxHeartbeats 4000000 in
set_option maxRecDepth 100000 in
theorem rsettle_is (h : RnC w X R B g c d z vs) (hm : MayP z.pn z.ts) (hl : z.ps.length = z.ts.length) (hz : ∀ p ∈ z.ps, SmallT p.tr) (hsn : ∀ p ∈ z.ps, 0 ≤ p.tr.sn ∧ p.tr.sn ≤ 1000000) (now : Int) :
    Calls Tryz.prog 11 #[ptrV R, .int .i64 now] w (RcT w X R B g c d (setR z now) vs) := by
  have h8 : z.ts.length ≤ 8 := hm.right.few.2
  have h8p : z.ps.length ≤ 8 := by omega
  have HA := Lib.hid h
  have HL := Lib.hid hl
  have HZ := Lib.hid hz
  have HSN := Lib.hid hsn
  have HTK := Lib.hid (show ∀ t ∈ z.ts, TaskOk z.ts.length t from hm.right.task)
  have HS := Lib.hid (rstatus_is h h8p)
  obtain ⟨v, hv⟩ : ∃ v, v = statR z := ⟨_, rfl⟩
  rw [← hv] at HS
  have HV := Lib.hid hv
  obtain ⟨r, hr⟩ : ∃ r, r = setR z now := ⟨_, rfl⟩
  rw [← hr]
  have HR := Lib.hid hr
  clear h hm hl hz hsn hv hr
  by_cases h0 : v = 0
  · have n0 : (v != 0) = false := by rw [bne_eq_false_iff_eq]; exact h0
    have HE := Lib.hid (show r = { z with ps := List.zipWith (setPl now) z.ts z.ps } by rw [HR.out, setR, if_pos (by rw [← HV.out]; exact h0)])
    clear h0
    go_enter Tryz.func11, Tryz.ntmps11
    go_wp2_with fail
    refine HS.out.mono ?_
    rintro e w1 ⟨rfl, hb1⟩
    have HA1 := Lib.hid (HA.out.later hb1)
    have HO1 := Lib.hid (OnlyO.of_below (O := [R, B]) hb1)
    clear hb1 HA
    obtain ⟨_, x1, _, _⟩ := HA1.out.cells
    go_wp2_with fail
    clear x1
    go_loopw [16] (fun i wr => ∃ (k : Nat) (ps : List PlP), i = .int .i64 k ∧ k ≤ z.ts.length ∧ Hid (SetK now z.ts z.ps ps k) ∧ Hid (RnC wr X R B g c d { z with ps := ps } vs) ∧ Hid (OnlyO [R, B] w wr)) (fun i _ => z.ts.length - (intOf i).toNat)
    case atStart => exact ⟨0, z.ps, rfl, Nat.zero_le _, Lib.hid ⟨rfl, fun i t p _ hp => by rw [hp, if_neg (Nat.not_lt_zero _)]⟩, HA1, HO1⟩
    case round =>
      obtain ⟨k, ps, rfl, hk, HK, HA2, HO2⟩ := hrel
      by_cases hlt : k < z.ts.length
      · obtain ⟨t, ht⟩ : ∃ t, z.ts[k]? = some t := ⟨_, List.getElem?_eq_getElem hlt⟩
        obtain ⟨p, hp⟩ : ∃ p, z.ps[k]? = some p := ⟨_, List.getElem?_eq_getElem (by rw [HL.out]; exact hlt)⟩
        have HT := Lib.hid ht
        have HP := Lib.hid hp
        have hp' := HK.out.2 k t p ht hp
        rw [if_neg (Nat.lt_irrefl _)] at hp'
        have HP' := Lib.hid hp'
        have hpl := HK.out.1
        obtain ⟨A, ea, hct, _⟩ := HA2.out.task ht
        obtain ⟨_, x1, x2, _⟩ := HA2.out.cells
        have hx2 : wr.cell? ⟨R, 2, none⟩ = some (.slice (some ⟨B, 0, none⟩) z.ps.length d) := by
          rw [x2]
          show some (Value.slice _ ps.length d) = _
          rw [hpl]
        have p0 : wr.cell? ⟨g, k * 7, none⟩ = some (.string t.name) := hct 0 _ rfl
        have p1 := hct 1 _ rfl
        have p2 := hct 2 _ rfl
        have p3 := hct 3 _ rfl
        have p4 := hct 4 _ rfl
        have p5 := hct 5 _ rfl
        have p6 := hct 6 _ rfl
        have hk0 : (0 : Int) ≤ (k : Int) := by omega
        have hkl : (k : Int) < (z.ts.length : Int) := by omega
        have hkp : (k : Int) < (z.ps.length : Int) := by have := HL.out; omega
        clear ht hp hp' hpl hct x2
        go_upto_region 4 with fail
        have hbc := (Below.refl wr.heap.size wr).alloc (Nat.le_refl _) (.cells (tkA t A ea) 65)
        have HMC := Lib.hid (made_at wr (.cells (tkA t A ea) 65))
        have HA3 := Lib.hid (HA2.out.later hbc)
        have HO3 := Lib.hid (HO2.out.trans (OnlyO.of_below (O := [R, B]) hbc) New.refl)
        have y2 := cell_later hbc hx2
        clear hbc p0 p1 p2 p3 p4 p5 p6 hx2 x1 HA2 HO2
        generalize hW2 : (wr.alloc (.cells (tkA t A ea) 65)) = W2 at *
        clear hW2
        generalize wr.heap.size = C at *
        go_upto_region 5 with fail
        clear y2
        have z0 := cellH HMC.out 0
        have z1 := cellH HMC.out 1
        have z2 := cellH HMC.out 2
        have z3 := cellH HMC.out 3
        have z4 := cellH HMC.out 4
        have z5 := cellH HMC.out 5
        have z6_ := cellH HMC.out 6
        simp at z0 z1 z2 z3 z4 z5 z6_
        obtain ⟨q, hq⟩ : ∃ q, q = kindI t := ⟨_, rfl⟩
        have hkk := fun W : World => rkind_is t A ea W
        rw [← hq] at hkk
        have HKD := Lib.hid hkk
        have HQ := Lib.hid hq
        clear hkk hq
        go_wp2_with fail
        refine (HKD.out _).mono ?_
        rintro e w3 ⟨rfl, hb3⟩
        have HM3 := Lib.hid (later_at hb3 HMC.out)
        have HA4 := Lib.hid (HA3.out.later hb3)
        have HO4 := Lib.hid (HO3.out.trans (OnlyO.of_below (O := [R, B]) hb3) New.refl)
        clear hb3 HMC HA3 HO3 z0 z1 z2 z3 z4 z5 z6_ HKD
        obtain ⟨Y, e, hv, _, _, hc⟩ := HA4.out.step HP'.out
        have p0 : w3.cell? ⟨B, k * 9, none⟩ = some (.int .i64 p.tr.st) := hc 0 _ rfl
        have p1 := hc 1 _ rfl
        have p2 := hc 2 _ rfl
        have p3 := hc 3 _ rfl
        have p4 := hc 4 _ rfl
        have p5 := hc 5 _ rfl
        clear hv hc
        by_cases hg : 0 < t.need
        · have n1 : (q == 0) = false := by rw [HQ.out]; simp [kindI, hg]
          have hsn := HSN.out p (List.mem_of_getElem? HP.out)
          have htm := (HTK.out t (List.mem_of_getElem? HT.out)).time
          obtain ⟨o, ho⟩ : ∃ o, o = decide (p.tr.sn + t.time ≤ now) := ⟨_, rfl⟩
          have hct := fun W : World => gover_is (w := W) p.tr.sn t.time now hsn.1 hsn.2 (by omega) (by omega)
          rw [← ho] at hct
          have HCT := Lib.hid hct
          have HOO := Lib.hid ho
          clear hct ho hsn htm
          by_cases h1 : p.tr.st = 1
          · have n2 : (p.tr.st == 1) = true := beq_iff_eq.2 h1
            cases o with
            | true =>
              have HSP := Lib.hid (show ({ p with tr := ⟨4, 0, p.tr.ms, 0, 0, 0⟩ } : PlP) = setPl now t p by
                rw [setPl, if_neg (by omega), if_pos ⟨h1, of_decide_eq_true HOO.out.symm⟩])
              have HK6 := Lib.hid (HK.out.next HT.out HP.out HSP.out)
              clear h1
              have w3_ := cellH HM3.out 3
              simp at w3_
              go_upto_region 7 with fail
              obtain ⟨S, hS0, hSk, hSx, hSe⟩ := held_below w3
              have f3 := fun q : HeldW S => cell_later (hSx q) w3_
              have g0 := fun q : HeldW S => cell_later (hSx q) p0
              have g1 := fun q : HeldW S => cell_later (hSx q) p1
              have HS0 := Lib.hid hS0
              have HSK := Lib.hid hSk
              have HSE := Lib.hid hSe
              clear hS0 hSk hSe hSx p0 p1 p2 p3 p4 p5 w3_
              refine wp_region_kept S (by kernel_rfl) (by kernel_rfl) HS0.out ?_
              intro hne
              repeat (go_big_quiet_step (first | exact rfl | (go_at_call 38; refine kept_of HSK.out (HCT.out _))))
              refine wpQuiet_nil ?_
              rintro w4 ⟨⟨_, hq4⟩, rfl⟩
              clear f3 g0 g1 hne
              have hb4 := HSE.out _ hq4
              have HA5 := Lib.hid (HA4.out.later hb4)
              have HO5 := Lib.hid (HO4.out.trans (OnlyO.of_below (O := [R, B]) hb4) New.refl)
              clear hq4 hb4 HSE HSK HS0 HA4 HO4
              have HFL := Lib.hid (rfail_is HA5.out HP'.out)
              go_wp2_with fail
              refine HFL.out.mono ?_
              rintro e w6 ⟨rfl, h6, ho6⟩
              have HA6 := Lib.hid h6
              have HO6 := Lib.hid (HO5.out.trans ho6 New.refl)
              clear h6 ho6
              go_wp2_with fail
              go_roundw
              case rel => exact ⟨k + 1, _, by go_num, by omega, HK6, HA6, HO6⟩
              case measure => simp [intOf]; omega
            | false =>
              have HK6 := Lib.hid (HK.out.skip HT.out HP.out (show setPl now t p = p by
                rw [setPl, if_neg (by omega), if_neg (fun h => by have := HOO.out; rw [decide_eq_true h.2] at this; cases this)]))
              clear h1
              have w3_ := cellH HM3.out 3
              simp at w3_
              go_upto_region 7 with fail
              obtain ⟨S, hS0, hSk, hSx, hSe⟩ := held_below w3
              have f3 := fun q : HeldW S => cell_later (hSx q) w3_
              have g0 := fun q : HeldW S => cell_later (hSx q) p0
              have g1 := fun q : HeldW S => cell_later (hSx q) p1
              have HS0 := Lib.hid hS0
              have HSK := Lib.hid hSk
              have HSE := Lib.hid hSe
              clear hS0 hSk hSe hSx p0 p1 p2 p3 p4 p5 w3_
              refine wp_region_kept S (by kernel_rfl) (by kernel_rfl) HS0.out ?_
              intro hne
              repeat (go_big_quiet_step (first | exact rfl | (go_at_call 38; refine kept_of HSK.out (HCT.out _))))
              refine wpQuiet_nil ?_
              rintro w4 ⟨⟨_, hq4⟩, rfl⟩
              clear f3 g0 g1 hne
              have hb4 := HSE.out _ hq4
              have HA5 := Lib.hid (HA4.out.later hb4)
              have HO5 := Lib.hid (HO4.out.trans (OnlyO.of_below (O := [R, B]) hb4) New.refl)
              clear hq4 hb4 HSE HSK HS0 HA4 HO4
              go_wp2_with fail
              go_roundw
              case rel => exact ⟨k + 1, _, by go_num, by omega, HK6, HA5, HO5⟩
              case measure => simp [intOf]; omega
          · have n2 : (p.tr.st == 1) = false := beq_eq_false_iff_ne.2 h1
            have HK6 := Lib.hid (HK.out.skip HT.out HP.out (show setPl now t p = p by
              rw [setPl, if_neg (by omega), if_neg (fun h => h1 h.1)]))
            clear h1
            have w3_ := cellH HM3.out 3
            simp at w3_
            go_upto_region 7 with fail
            obtain ⟨S, hS0, hSk, hSx, hSe⟩ := held_below w3
            have f3 := fun q : HeldW S => cell_later (hSx q) w3_
            have g0 := fun q : HeldW S => cell_later (hSx q) p0
            have g1 := fun q : HeldW S => cell_later (hSx q) p1
            have HS0 := Lib.hid hS0
            have HSK := Lib.hid hSk
            have HSE := Lib.hid hSe
            clear hS0 hSk hSe hSx p0 p1 p2 p3 p4 p5 w3_
            refine wp_region_kept S (by kernel_rfl) (by kernel_rfl) HS0.out ?_
            intro hne
            repeat (go_big_quiet_step (first | exact rfl | (go_at_call 38; refine kept_of HSK.out (HCT.out _))))
            refine wpQuiet_nil ?_
            rintro w4 ⟨⟨_, hq4⟩, rfl⟩
            clear f3 g0 g1 hne
            have hb4 := HSE.out _ hq4
            have HA5 := Lib.hid (HA4.out.later hb4)
            have HO5 := Lib.hid (HO4.out.trans (OnlyO.of_below (O := [R, B]) hb4) New.refl)
            clear hq4 hb4 HSE HSK HS0 HA4 HO4
            go_wp2_with fail
            go_roundw
            case rel => exact ⟨k + 1, _, by go_num, by omega, HK6, HA5, HO5⟩
            case measure => simp [intOf]; omega
        · have n1 : (q == 0) = true := by rw [HQ.out]; simp [kindI, hg]
          have hs := HZ.out p (List.mem_of_getElem? HP.out)
          obtain ⟨t', ht'⟩ : ∃ t', t' = settleP p.tr now t.retry := ⟨_, rfl⟩
          have hct := fun W : World => lsettle_is (w := W) p.tr now t.retry hs
          rw [← ht'] at hct
          have HCT := Lib.hid hct
          have HSP := Lib.hid (show ({ p with tr := t' } : PlP) = setPl now t p by
            rw [ht', setPl, if_pos (by have := (HTK.out t (List.mem_of_getElem? HT.out)).need; omega)])
          clear hs ht' hct
          have w2_ := cellH HM3.out 2
          simp at w2_
          go_upto_region 6 with fail
          obtain ⟨S, hS0, hSk, hSx, hSe⟩ := held_below w3
          have f2 := fun q : HeldW S => cell_later (hSx q) w2_
          have g0 := fun q : HeldW S => cell_later (hSx q) p0
          have g1 := fun q : HeldW S => cell_later (hSx q) p1
          have g2 := fun q : HeldW S => cell_later (hSx q) p2
          have g3 := fun q : HeldW S => cell_later (hSx q) p3
          have g4 := fun q : HeldW S => cell_later (hSx q) p4
          have g5 := fun q : HeldW S => cell_later (hSx q) p5
          have HS0 := Lib.hid hS0
          have HSK := Lib.hid hSk
          have HSE := Lib.hid hSe
          clear hS0 hSk hSe hSx p0 p1 p2 p3 p4 p5 w2_
          refine wp_region_phase S 11 1 (by kernel_rfl) (by kernel_rfl) rfl (by kernel_rfl) (by kernel_rfl) HS0.out ?_
          intro hne
          simp only [List.take_succ_cons, List.take_zero]
          repeat (go_big_quiet_step (first | exact rfl | (go_at_call 37; refine kept_of HSK.out (HCT.out _))))
          refine wpQuiet_nil ?_
          rintro w4 ⟨⟨_, hq4⟩, rfl⟩
          clear f2 g0 g1 g2 g3 g4 g5 hne
          have hb4 := HSE.out _ hq4
          have HA5 := Lib.hid (HA4.out.later hb4)
          have HO5 := Lib.hid (HO4.out.trans (OnlyO.of_below (O := [R, B]) hb4) New.refl)
          clear hq4 hb4 HSE HSK HS0 HA4 HO4
          have HA6 := Lib.hid (set6_put HA5.out HP'.out t')
          have HO6 := Lib.hid (HO5.out.trans (onlyO_set6 (W := w4) (B := B) (M := [R, B]) (o := k * 9) (t := t') (by simp)) New.refl)
          have HK6 := Lib.hid (HK.out.next HT.out HP.out HSP.out)
          obtain ⟨Y, e, hv, _, _, hc⟩ := HA5.out.step HP'.out
          have p0 : w4.cell? ⟨B, k * 9, none⟩ = some (.int .i64 p.tr.st) := hc 0 _ rfl
          have p1 := hc 1 _ rfl
          have p2 := hc 2 _ rfl
          have p3 := hc 3 _ rfl
          have p4 := hc 4 _ rfl
          have p5 := hc 5 _ rfl
          have zf := HA5.out.free
          clear hv hc HA5 HO5
          refine one_ready (i := 11) (by kernel_rfl) (wpOp_step rfl (fun KK hKK => ?_))
          have HKK := Lib.hid hKK
          clear hKK
          go_simp
          refine HKK.out _ _ ?_
          clear HKK KK p0 p1 p2 p3 p4 p5 zf
          refine ⟨by kernel_rfl, ?_⟩
          go_wp2_with fail
          go_roundw
          case rel => exact ⟨k + 1, _, by go_num, by omega, HK6, HA6, HO6⟩
          case measure => simp [intOf]; omega
      · obtain rfl : k = z.ts.length := by omega
        have hlk : ¬ (z.ts.length : Int) < (z.ts.length : Int) := by omega
        have hE := HK.out.all HL.out
        have hA := HA2.out
        rw [hE, ← HE.out] at hA
        have HF := Lib.hid (show RcT w X R B g c d r vs (.returned (.tuple #[])) wr from ⟨rfl, hA, HO2.out⟩)
        clear hE hA
        go_wp2_with fail
        exact bodyPost_ret (v := .tuple #[]) (by simp [results, Tryz.results11, go_sem]) rfl HF.out
  · have n0 : (v != 0) = true := by rw [bne_iff_ne]; exact h0
    have HE := Lib.hid (show r = z by rw [HR.out, setR, if_neg (by rw [← HV.out]; exact h0)])
    clear h0
    go_enter Tryz.func11, Tryz.ntmps11
    go_wp2_with fail
    refine HS.out.mono ?_
    rintro e w1 ⟨rfl, hb1⟩
    have HF := Lib.hid (show RcT w X R B g c d r vs (.returned (.tuple #[])) w1 from by rw [HE.out]; exact ⟨rfl, HA.out.later hb1, OnlyO.of_below hb1⟩)
    clear hb1
    go_wp2_with fail
    exact bodyPost_ret (v := .tuple #[]) (by simp [results, Tryz.results11, go_sem]) rfl HF.out
end
end Go.Proofs.YtfjaibaidpbppaaGreatDoor
