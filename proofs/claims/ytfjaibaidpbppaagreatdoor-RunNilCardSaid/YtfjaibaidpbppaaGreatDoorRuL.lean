/-
  The program's run: Best, Find. Conditions: a run of a pipeline that may be. The program's run: New, Copy, Pipe. Conditions: a pipeline that may be.
-/
import Derived.Test.YtfjaibaidpbppaaGreatDoorRuJ
namespace Go.Proofs.YtfjaibaidpbppaaGreatDoor
open Go.RowKit

theorem bestGo_next {now : Int} {ts : List TkP} {ps : List PlP} {k : Nat} {b : Option (Nat × Int)} {t : TkP} {p : PlP} (ht : ts[k]? = some t) (hp : ps[k]? = some p) : bestGo now (ts.drop k) (ps.drop k) k b = bestGo now (ts.drop (k + 1)) (ps.drop (k + 1)) (k + 1) (if t.need = 0 ∧ p.tr.st = 1 ∧ p.tr.sn ≤ now ∧ (∀ x, b = some x → p.tr.sn < x.2) then some (k, p.tr.sn) else b) := by
  obtain ⟨h1, rfl⟩ := List.getElem?_eq_some_iff.1 ht
  obtain ⟨h2, rfl⟩ := List.getElem?_eq_some_iff.1 hp
  rw [List.drop_eq_getElem_cons h1, List.drop_eq_getElem_cons h2, bestGo]
  refine congrArg (bestGo now _ _ (k + 1)) ?_
  split <;> rfl
theorem bestGo_end {now : Int} {ts : List TkP} {ps : List PlP} {b : Option (Nat × Int)} : bestGo now (ts.drop ts.length) ps ts.length b = b := by
  rw [List.drop_length]
  unfold bestGo
  rfl
theorem findGo_next {now wk ls : Int} {ts : List TkP} {ps : List PlP} {k : Nat} {t : TkP} {p : PlP} (ht : ts[k]? = some t) (hp : ps[k]? = some p) : findGo now wk ls (ts.drop k) (ps.drop k) k = if t.need = 0 ∧ holdsP p.tr now wk ls = true then some k else findGo now wk ls (ts.drop (k + 1)) (ps.drop (k + 1)) (k + 1) := by
  obtain ⟨h1, rfl⟩ := List.getElem?_eq_some_iff.1 ht
  obtain ⟨h2, rfl⟩ := List.getElem?_eq_some_iff.1 hp
  rw [List.drop_eq_getElem_cons h1, List.drop_eq_getElem_cons h2, findGo]
theorem findGo_end {now wk ls : Int} {ts : List TkP} {ps : List PlP} : findGo now wk ls (ts.drop ts.length) ps ts.length = none := by
  rw [List.drop_length]
  unfold findGo
  rfl
/-- The best one so far, in its slots. -/
def bpI (b : Option (Nat × Int)) : Int := match b with | none => -1 | some x => (x.1 : Int)
def bsI (b : Option (Nat × Int)) : Int := match b with | none => 0 | some x => x.2
section
variable {w : World} {X : List Nat} {R B g c d : Nat} {z : RunP} {vs : List Value}
set_option maxHeartbeats 4000000 in
set_option maxRecDepth 100000 in
theorem rbest_is (h : RnC w X R B g c d z vs) (hm : MayP z.pn z.ts) (hl : z.ps.length = z.ts.length) (now : Int) :
    Calls Tryz.prog 22 #[ptrV R, .int .i64 now] w fun e w' => e = .returned (.tuple #[.int .i64 (bestR z now).1, .int .i64 (bestR z now).2.1, .bool (bestR z now).2.2]) ∧ Below w.heap.size w w' := by
  have h8 : z.ts.length ≤ 8 := hm.right.few.2
  have h8p : z.ps.length ≤ 8 := by omega
  have HA := Lib.hid h
  have HL := Lib.hid hl
  have HTK := Lib.hid (show ∀ t ∈ z.ts, 0 ≤ t.need from fun t ht => (hm.right.task t ht).need.1)
  have HS := Lib.hid (rstatus_is h h8p)
  obtain ⟨v, hv⟩ : ∃ v, v = statR z := ⟨_, rfl⟩
  rw [← hv] at HS
  have HV := Lib.hid hv
  obtain ⟨r, hr⟩ : ∃ r, r = bestR z now := ⟨_, rfl⟩
  rw [← hr]
  have HR := Lib.hid hr
  clear h hm hl hv hr
  by_cases h0 : v = 0
  · have n0 : (v != 0) = false := by rw [bne_eq_false_iff_eq]; exact h0
    have HE := Lib.hid (show ∀ b, bestGo now z.ts z.ps 0 none = b → r = (bpI b, bsI b, b.isSome) from fun b hb => by
      rw [HR.out, bestR, if_neg (by rw [← HV.out, h0]; simp), hb]
      cases b with
      | none => rfl
      | some x => rfl)
    clear h0
    go_enter Tryz.func22, Tryz.ntmps22
    go_wp2_with fail
    refine HS.out.mono ?_
    rintro e w1 ⟨rfl, hb1⟩
    have HB1 := Lib.hid hb1
    obtain ⟨_, x1, _, _⟩ := (HA.out.later hb1).cells
    clear hb1
    go_wp2_with fail
    clear x1
    go_loopw [4, 5, 20] (fun a s i wr => ∃ (k : Nat) (b : Option (Nat × Int)), i = .int .i64 k ∧ k ≤ z.ts.length ∧ a = .int .i64 (bpI b) ∧ s = .int .i64 (bsI b) ∧ Hid (bestGo now z.ts z.ps 0 none = bestGo now (z.ts.drop k) (z.ps.drop k) k b) ∧ Hid (∀ x, b = some x → x.1 < 1000000) ∧ Hid (Below w.heap.size w wr)) (fun _ _ i _ => z.ts.length - (intOf i).toNat)
    case atStart => exact ⟨0, none, rfl, Nat.zero_le _, rfl, rfl, Lib.hid rfl, Lib.hid (fun _ h => by cases h), HB1⟩
    case round =>
      obtain ⟨k, b, rfl, hk, rfl, rfl, HGO, HBX, HB⟩ := hrel
      by_cases hlt : k < z.ts.length
      · obtain ⟨t, ht⟩ : ∃ t, z.ts[k]? = some t := ⟨_, List.getElem?_eq_getElem hlt⟩
        obtain ⟨p, hp⟩ : ∃ p, z.ps[k]? = some p := ⟨_, List.getElem?_eq_getElem (by rw [HL.out]; exact hlt)⟩
        have hA2 := HA.out.later HB.out
        obtain ⟨A, ea, hct, _⟩ := hA2.task ht
        obtain ⟨_, x1, x2, _⟩ := hA2.cells
        have p0 : wr.cell? ⟨g, k * 7, none⟩ = some (.string t.name) := hct 0 _ rfl
        have p1 := hct 1 _ rfl
        have p2 := hct 2 _ rfl
        have p3 := hct 3 _ rfl
        have p4 := hct 4 _ rfl
        have p5 := hct 5 _ rfl
        have p6 := hct 6 _ rfl
        have HN := Lib.hid (HGO.out.trans (bestGo_next (now := now) (b := b) ht hp))
        have HND := Lib.hid (HTK.out t (List.mem_of_getElem? ht))
        have HP := Lib.hid hp
        have hk0 : (0 : Int) ≤ (k : Int) := by omega
        have hkl : (k : Int) < (z.ts.length : Int) := by omega
        have hkp : (k : Int) < (z.ps.length : Int) := by have := HL.out; omega
        clear ht hp hct hA2
        go_upto_region 7 with fail
        have hbc := (Below.refl wr.heap.size wr).alloc (Nat.le_refl _) (.cells (tkA t A ea) 65)
        have HMC := Lib.hid (made_at wr (.cells (tkA t A ea) 65))
        have HB2 := Lib.hid (below_step HB.out hbc)
        clear hbc p0 p1 p2 p3 p4 p5 p6 x1 x2 HGO HB
        generalize hW2 : (wr.alloc (.cells (tkA t A ea) 65)) = W2 at *
        clear hW2
        generalize wr.heap.size = C at *
        have hA3 := HA.out.later HB2.out
        obtain ⟨_, _, x2, _⟩ := hA3.cells
        obtain ⟨Y, e, hv, _, _, hc⟩ := hA3.step HP.out
        have p0 : W2.cell? ⟨B, k * 9, none⟩ = some (.int .i64 p.tr.st) := hc 0 _ rfl
        have p1 := hc 1 _ rfl
        have p2 := hc 2 _ rfl
        have p3 := hc 3 _ rfl
        have p4 := hc 4 _ rfl
        have p5 := hc 5 _ rfl
        clear hv hc hA3
        go_upto_region 8 with fail
        have hbd := (Below.refl W2.heap.size W2).alloc (Nat.le_refl _) (.cells (tryA p.tr) 73)
        have HMT := Lib.hid (made_at W2 (.cells (tryA p.tr) 73))
        have HM2 := Lib.hid (later_at hbd HMC.out)
        have HB3 := Lib.hid (below_step HB2.out hbd)
        clear hbd p0 p1 p2 p3 p4 p5 x2 HMC HB2
        generalize hW3 : (W2.alloc (.cells (tryA p.tr) 73)) = W3 at *
        clear hW3
        generalize W2.heap.size = D at *
        have z0 := cellH HM2.out 0
        have z1 := cellH HM2.out 1
        have z2 := cellH HM2.out 2
        have z3 := cellH HM2.out 3
        have z4 := cellH HM2.out 4
        have z5 := cellH HM2.out 5
        have z6_ := cellH HM2.out 6
        simp at z0 z1 z2 z3 z4 z5 z6_
        obtain ⟨q, hq⟩ : ∃ q, q = kindI t := ⟨_, rfl⟩
        have hkk := fun W : World => rkind_is t A ea W
        rw [← hq] at hkk
        have HKD := Lib.hid hkk
        have HQ := Lib.hid hq
        clear hkk hq
        go_wp2_with fail
        refine (HKD.out _).mono ?_
        rintro e w3 ⟨rfl, hb3⟩
        have HM3 := Lib.hid (later_at hb3 HMT.out)
        have HB4 := Lib.hid (below_step HB3.out hb3)
        clear hb3 HMT HM2 HB3 z0 z1 z2 z3 z4 z5 z6_ HKD
        have u0 := cellH HM3.out 0
        have u1 := cellH HM3.out 1
        simp at u0 u1
        by_cases hg : 0 < t.need
        · have n1 : (q == 0) = false := by rw [HQ.out]; simp [kindI, hg]
          have HN2 := Lib.hid (show bestGo now z.ts z.ps 0 none = bestGo now (z.ts.drop (k + 1)) (z.ps.drop (k + 1)) (k + 1) b by rw [HN.out, if_neg (fun h => by omega)])
          clear n0
          go_wp2_with fail
          go_roundw
          case rel => exact ⟨k + 1, b, by go_num, by omega, rfl, rfl, HN2, HBX, HB4⟩
          case measure => simp [intOf]; omega
        · have n1 : (q == 0) = true := by rw [HQ.out]; simp [kindI, hg]
          by_cases h1 : p.tr.st = 1
          · have n2 : (p.tr.st == 1) = true := beq_iff_eq.2 h1
            by_cases h2 : p.tr.sn ≤ now
            · have hnd := HND.out
              cases b with
              | none =>
                have HN2 := Lib.hid (show bestGo now z.ts z.ps 0 none = bestGo now (z.ts.drop (k + 1)) (z.ps.drop (k + 1)) (k + 1) (some (k, p.tr.sn)) by rw [HN.out, if_pos ⟨by omega, h1, h2, fun x hx => by cases hx⟩])
                clear h1 hnd
                simp only [bpI, bsI]
                go_wp2_with go_region
                go_roundw
                case rel => exact ⟨k + 1, some (k, p.tr.sn), by go_num, by omega, rfl, rfl, HN2, Lib.hid (fun x hx => by injection hx with hx; rw [← hx]; show k < 1000000; omega), Lib.hid HB4.out.drew⟩
                case measure => simp [intOf]; omega
              | some x =>
                have hx1 := HBX.out x rfl
                have n3 : (((x.1 : Nat) : Int) == -1) = false := by rw [beq_eq_false_iff_ne]; omega
                by_cases h3 : p.tr.sn < x.2
                · have HN2 := Lib.hid (show bestGo now z.ts z.ps 0 none = bestGo now (z.ts.drop (k + 1)) (z.ps.drop (k + 1)) (k + 1) (some (k, p.tr.sn)) by rw [HN.out, if_pos ⟨by omega, h1, h2, fun y hy => by injection hy with hy; rw [← hy]; exact h3⟩])
                  clear h1 hnd
                  simp only [bpI, bsI]
                  go_wp2_with go_region
                  go_roundw
                  case rel => exact ⟨k + 1, some (k, p.tr.sn), by go_num, by omega, rfl, rfl, HN2, Lib.hid (fun x hx => by injection hx with hx; rw [← hx]; show k < 1000000; omega), Lib.hid HB4.out.drew⟩
                  case measure => simp [intOf]; omega
                · have HN2 := Lib.hid (show bestGo now z.ts z.ps 0 none = bestGo now (z.ts.drop (k + 1)) (z.ps.drop (k + 1)) (k + 1) (some x) by rw [HN.out, if_neg (fun h => h3 (h.2.2.2 x rfl))])
                  clear h1 hnd
                  simp only [bpI, bsI]
                  go_wp2_with fail
                  go_roundw
                  case rel => exact ⟨k + 1, some x, by go_num, by omega, rfl, rfl, HN2, HBX, HB4⟩
                  case measure => simp [intOf]; omega
            · have n3 : decide (p.tr.sn ≤ now) = false := decide_eq_false h2
              have HN2 := Lib.hid (show bestGo now z.ts z.ps 0 none = bestGo now (z.ts.drop (k + 1)) (z.ps.drop (k + 1)) (k + 1) b by rw [HN.out, if_neg (fun h => h2 h.2.2.1)])
              clear h1
              go_wp2_with fail
              go_roundw
              case rel => exact ⟨k + 1, b, by go_num, by omega, rfl, rfl, HN2, HBX, HB4⟩
              case measure => simp [intOf]; omega
          · have n2 : (p.tr.st == 1) = false := beq_eq_false_iff_ne.2 h1
            have HN2 := Lib.hid (show bestGo now z.ts z.ps 0 none = bestGo now (z.ts.drop (k + 1)) (z.ps.drop (k + 1)) (k + 1) b by rw [HN.out, if_neg (fun h => h1 h.2.1)])
            clear h1
            go_wp2_with fail
            go_roundw
            case rel => exact ⟨k + 1, b, by go_num, by omega, rfl, rfl, HN2, HBX, HB4⟩
            case measure => simp [intOf]; omega
      · obtain rfl : k = z.ts.length := by omega
        have hlk : ¬ (z.ts.length : Int) < (z.ts.length : Int) := by omega
        have HF := Lib.hid (HE.out b (HGO.out.trans bestGo_end))
        cases b with
        | none =>
          simp only [bpI, bsI]
          go_wp2_with fail
          refine bodyPost_ret (results_tmp3 rfl _ _ _) rfl ?_
          rw [HF.out]
          exact ⟨rfl, HB.out⟩
        | some x =>
          have n5 : (((x.1 : Nat) : Int) != -1) = true := by rw [bne_iff_ne]; omega
          simp only [bpI, bsI]
          go_wp2_with fail
          refine bodyPost_ret (results_tmp3 rfl _ _ _) rfl ?_
          rw [HF.out]
          exact ⟨rfl, HB.out⟩
  · have n0 : (v != 0) = true := by rw [bne_iff_ne]; exact h0
    have HE := Lib.hid (show r = (-1, 0, false) by rw [HR.out, bestR, if_pos (by rw [← HV.out]; exact h0)])
    clear h0
    go_enter Tryz.func22, Tryz.ntmps22
    go_wp2_with fail
    refine HS.out.mono ?_
    rintro e w1 ⟨rfl, hb1⟩
    have HB1 := Lib.hid hb1
    clear hb1
    go_wp2_with fail
    refine bodyPost_ret (results_tmp3 rfl _ _ _) rfl ?_
    rw [HE.out]
    exact ⟨rfl, HB1.out⟩
set_option maxHeartbeats 4000000 in
set_option maxRecDepth 100000 in
theorem rfind_is (h : RnC w X R B g c d z vs) (hm : MayP z.pn z.ts) (hl : z.ps.length = z.ts.length) (now wk ls : Int) :
    Calls Tryz.prog 23 #[ptrV R, .int .i64 now, .int .i64 wk, .int .i64 ls] w fun e w' => e = .returned (.tuple #[.int .i64 (findR z now wk ls).1, .bool (findR z now wk ls).2]) ∧ Below w.heap.size w w' := by
  have h8 : z.ts.length ≤ 8 := hm.right.few.2
  have h8p : z.ps.length ≤ 8 := by omega
  have HA := Lib.hid h
  have HL := Lib.hid hl
  have HTK := Lib.hid (show ∀ t ∈ z.ts, 0 ≤ t.need from fun t ht => (hm.right.task t ht).need.1)
  have HS := Lib.hid (rstatus_is h h8p)
  obtain ⟨v, hv⟩ : ∃ v, v = statR z := ⟨_, rfl⟩
  rw [← hv] at HS
  have HV := Lib.hid hv
  obtain ⟨r, hr⟩ : ∃ r, r = findR z now wk ls := ⟨_, rfl⟩
  rw [← hr]
  have HR := Lib.hid hr
  clear h hm hl hv hr
  by_cases h0 : v = 0
  · have n0 : (v != 0) = false := by rw [bne_eq_false_iff_eq]; exact h0
    have HEN := Lib.hid (show findGo now wk ls z.ts z.ps 0 = none → r = (-1, false) from fun hb => by rw [HR.out, findR, if_neg (by rw [← HV.out, h0]; simp), hb])
    have HES := Lib.hid (show ∀ k, findGo now wk ls z.ts z.ps 0 = some k → r = ((k : Int), true) from fun k hb => by rw [HR.out, findR, if_neg (by rw [← HV.out, h0]; simp), hb])
    clear h0
    go_enter Tryz.func23, Tryz.ntmps23
    go_wp2_with fail
    refine HS.out.mono ?_
    rintro e w1 ⟨rfl, hb1⟩
    have HB1 := Lib.hid hb1
    obtain ⟨_, x1, _, _⟩ := (HA.out.later hb1).cells
    clear hb1
    go_wp2_with fail
    clear x1
    go_loopw [21] (fun i wr => ∃ k : Nat, i = .int .i64 k ∧ k ≤ z.ts.length ∧ Hid (findGo now wk ls z.ts z.ps 0 = findGo now wk ls (z.ts.drop k) (z.ps.drop k) k) ∧ Hid (Below w.heap.size w wr)) (fun i _ => z.ts.length - (intOf i).toNat)
    case atStart => exact ⟨0, rfl, Nat.zero_le _, Lib.hid rfl, HB1⟩
    case round =>
      obtain ⟨k, rfl, hk, HGO, HB⟩ := hrel
      by_cases hlt : k < z.ts.length
      · obtain ⟨t, ht⟩ : ∃ t, z.ts[k]? = some t := ⟨_, List.getElem?_eq_getElem hlt⟩
        obtain ⟨p, hp⟩ : ∃ p, z.ps[k]? = some p := ⟨_, List.getElem?_eq_getElem (by rw [HL.out]; exact hlt)⟩
        have hA2 := HA.out.later HB.out
        obtain ⟨A, ea, hct, _⟩ := hA2.task ht
        obtain ⟨_, x1, x2, _⟩ := hA2.cells
        have p0 : wr.cell? ⟨g, k * 7, none⟩ = some (.string t.name) := hct 0 _ rfl
        have p1 := hct 1 _ rfl
        have p2 := hct 2 _ rfl
        have p3 := hct 3 _ rfl
        have p4 := hct 4 _ rfl
        have p5 := hct 5 _ rfl
        have p6 := hct 6 _ rfl
        have HN := Lib.hid (HGO.out.trans (findGo_next (now := now) (wk := wk) (ls := ls) ht hp))
        have HND := Lib.hid (HTK.out t (List.mem_of_getElem? ht))
        have HP := Lib.hid hp
        have hk0 : (0 : Int) ≤ (k : Int) := by omega
        have hkl : (k : Int) < (z.ts.length : Int) := by omega
        have hkp : (k : Int) < (z.ps.length : Int) := by have := HL.out; omega
        clear ht hp hct hA2
        go_upto_region 6 with fail
        have hbc := (Below.refl wr.heap.size wr).alloc (Nat.le_refl _) (.cells (tkA t A ea) 65)
        have HMC := Lib.hid (made_at wr (.cells (tkA t A ea) 65))
        have HB2 := Lib.hid (below_step HB.out hbc)
        clear hbc p0 p1 p2 p3 p4 p5 p6 x1 x2 HGO HB
        generalize hW2 : (wr.alloc (.cells (tkA t A ea) 65)) = W2 at *
        clear hW2
        generalize wr.heap.size = C at *
        have z0 := cellH HMC.out 0
        have z1 := cellH HMC.out 1
        have z2 := cellH HMC.out 2
        have z3 := cellH HMC.out 3
        have z4 := cellH HMC.out 4
        have z5 := cellH HMC.out 5
        have z6_ := cellH HMC.out 6
        simp at z0 z1 z2 z3 z4 z5 z6_
        obtain ⟨q, hq⟩ : ∃ q, q = kindI t := ⟨_, rfl⟩
        have hkk := fun W : World => rkind_is t A ea W
        rw [← hq] at hkk
        have HKD := Lib.hid hkk
        have HQ := Lib.hid hq
        clear hkk hq
        go_wp2_with fail
        refine (HKD.out _).mono ?_
        rintro e w3 ⟨rfl, hb3⟩
        have HB4 := Lib.hid (below_step HB2.out hb3)
        clear hb3 HMC HB2 z0 z1 z2 z3 z4 z5 z6_ HKD
        by_cases hg : 0 < t.need
        · have n1 : (q == 0) = false := by rw [HQ.out]; simp [kindI, hg]
          have HN2 := Lib.hid (HN.out.trans (if_neg (fun h => by omega)))
          go_wp2_with fail
          go_roundw
          case rel => exact ⟨k + 1, by go_num, by omega, HN2, HB4⟩
          case measure => simp [intOf]; omega
        · have n1 : (q == 0) = true := by rw [HQ.out]; simp [kindI, hg]
          have hA3 := HA.out.later HB4.out
          obtain ⟨_, _, x2, _⟩ := hA3.cells
          obtain ⟨Y, e, hv, _, _, hc⟩ := hA3.step HP.out
          have p0 : w3.cell? ⟨B, k * 9, none⟩ = some (.int .i64 p.tr.st) := hc 0 _ rfl
          have p1 := hc 1 _ rfl
          have p2 := hc 2 _ rfl
          have p3 := hc 3 _ rfl
          have p4 := hc 4 _ rfl
          have p5 := hc 5 _ rfl
          obtain ⟨o, ho⟩ : ∃ o, o = holdsP p.tr now wk ls := ⟨_, rfl⟩
          have hct := lholds_is (w := w3) p.tr now wk ls
          rw [← ho] at hct
          have HCT := Lib.hid hct
          have HOO := Lib.hid ho
          have hnd := HND.out
          have hn0 : t.need = 0 := by omega
          clear hv hc hA3 hct ho
          go_wp2_with fail
          refine HCT.out.mono ?_
          rintro e w4 ⟨rfl, hb4⟩
          have HB5 := Lib.hid (below_step HB4.out hb4)
          clear hb4 p0 p1 p2 p3 p4 p5 x2 HCT
          cases o with
          | true =>
            have HF := Lib.hid (HES.out k (HN.out.trans (if_pos ⟨hn0, HOO.out.symm⟩)))
            clear hn0 hnd
            go_wp2_with fail
            refine bodyPost_ret (results_tmp2 rfl _ _ _) rfl ?_
            rw [HF.out]
            exact ⟨rfl, HB5.out⟩
          | false =>
            have HN2 := Lib.hid (HN.out.trans (if_neg (fun h => by rw [← HOO.out] at h; exact absurd h.2 (by simp))))
            clear hn0 hnd
            go_wp2_with fail
            go_roundw
            case rel => exact ⟨k + 1, by go_num, by omega, HN2, HB5⟩
            case measure => simp [intOf]; omega
      · obtain rfl : k = z.ts.length := by omega
        have hlk : ¬ (z.ts.length : Int) < (z.ts.length : Int) := by omega
        have HF := Lib.hid (HEN.out (HGO.out.trans findGo_end))
        go_wp2_with fail
        refine bodyPost_ret (results_tmp2 rfl _ _ _) rfl ?_
        rw [HF.out]
        exact ⟨rfl, HB.out⟩
  · have n0 : (v != 0) = true := by rw [bne_iff_ne]; exact h0
    have HE := Lib.hid (show r = (-1, false) by rw [HR.out, findR, if_pos (by rw [← HV.out]; exact h0)])
    clear h0
    go_enter Tryz.func23, Tryz.ntmps23
    go_wp2_with fail
    refine HS.out.mono ?_
    rintro e w1 ⟨rfl, hb1⟩
    have HB1 := Lib.hid hb1
    clear hb1
    go_wp2_with fail
    refine bodyPost_ret (results_tmp2 rfl _ _ _) rfl ?_
    rw [HE.out]
    exact ⟨rfl, HB1.out⟩
end
end Go.Proofs.YtfjaibaidpbppaaGreatDoor

namespace Go.Proofs.YtfjaibaidpbppaaGreatDoor
open Go.RowKit

abbrev z9 : Array Value := #[.int .i64 0, .int .i64 0, .int .i64 0, .int .i64 0, .int .i64 0, .int .i64 0, .string ⟨#[]⟩, .slice none 0 0, .bool false]
theorem info_step : (Tryz.prog.info? 77).map (fun i => (i.zero, i.size, i.bytes)) = some (some (.agg z9), 9, 96) := by kernel_rfl
theorem run_steps (n : Nat) (hn : n ≤ 64) (w : World) : (Instr.makeSlice 68 (.int .i64 (n : Int)) (.int .i64 (n : Int))).run Tryz.prog w = .ok (.slice (some ⟨w.heap.size, 0, none⟩) n n) (w.alloc (.cells (madeCells z9 (n * 9)) 77)) := by
  obtain ⟨i0, hi, hz0, hz1, hz2⟩ := info_all info_step
  have hr := run_make (P := Tryz.prog) w 68 77 i0 (.agg z9) Tryz.underlying68 hi hz0 .i64 .i64 n n (by omega) (by omega) (by rw [hz2]; omega) (by omega)
  simpa [hz1, Value.cells] using hr
theorem StAt.made (W : World) (n : Nat) : StAt (W.alloc (.cells (madeCells z9 (n * 9)) 77)) W.heap.size (List.replicate n noPl) (List.replicate n (.slice none 0 0)) := by
  refine ⟨_, made_at _ _, fun i p v hp hv j u hu => ?_⟩
  have hjl : j < 9 := (List.getElem?_eq_some_iff.1 hu).1
  rw [List.getElem?_replicate] at hp hv
  split at hp
  · rename_i hi
    rw [if_pos hi] at hv
    injection hp with hp
    injection hv with hv
    subst hp hv
    unfold madeCells
    have hlt : i * 9 + j < n * 9 := by omega
    rw [Array.getElem?_map, Array.getElem?_range, if_pos hlt]
    show some (z9[(i * 9 + j) % 9]!) = some u
    rw [show (i * 9 + j) % 9 = j by omega]
    rcases j with _ | _ | _ | _ | _ | _ | _ | _ | _ | j
    all_goals first
      | (injection hu with hu; rw [← hu]; rfl)
      | omega
  · cases hp
/-- A run that is laid. -/
theorem RnC.made {W : World} {X : List Nat} {B g c d : Nat} {nm : ByteArray} {ts : List TkP} {ps : List PlP} {vs : List Value} {o : Bool} (hT : TksX W X g ts) (hX : ∀ i ∈ X, i < W.heap.size) (hg : g ∈ X) (hS : StAt W B ps vs) (hB : B ∉ X) (hv : vs.length = ps.length) (hc : ts.length ≤ c ∧ ps.length ≤ d) (hy : ∀ (i : Nat) p v, ps[i]? = some p → vs[i]? = some v → YesX W X v p.yes) :
    RnC (W.alloc (.cells #[.string nm, .slice (some ⟨g, 0, none⟩) ts.length c, .slice (some ⟨B, 0, none⟩) ps.length d, .bool o] 70)) X W.heap.size B g c d ⟨nm, ts, ps, o⟩ vs := by
  have hb := (Below.refl W.heap.size W).alloc (Nat.le_refl _) (.cells #[.string nm, .slice (some ⟨g, 0, none⟩) ts.length c, .slice (some ⟨B, 0, none⟩) ps.length d, .bool o] 70)
  have hk := fun i (hi : i ∈ X) => hb.block i (hX i hi)
  exact ⟨made_at _ _, hS.same (hb.block B hS.low), hv, hc, fun i p v hp hv2 => (hy i p v hp hv2).same hk (fun _ hi => hi), hT.same (hk g hg) hk (fun _ hi => hi), hg, fun i hi => Nat.lt_of_lt_of_le (hX i hi) hb.size, fun e => by have := hS.low; omega, fun hm => by have := hX _ hm; omega, hB⟩
theorem no_yes {W : World} {X : List Nat} {n : Nat} : ∀ (i : Nat) p v, (List.replicate n noPl)[i]? = some p → (List.replicate n (Value.slice none 0 0))[i]? = some v → YesX W X v p.yes := fun i p v hp hv => by
  rw [List.getElem?_replicate] at hp hv
  split at hp
  · rename_i hi
    rw [if_pos hi] at hv
    injection hp with hp
    injection hv with hv
    subst hp hv
    exact ⟨none, 0, rfl, IntsC.none_ _, fun h => absurd h (Nat.lt_irrefl _)⟩
  · cases hp
section
variable {w : World} {X : List Nat} {R B g c d : Nat} {z : RunP} {vs : List Value}
theorem rfit_yes {A : Option Addr} {c : Nat} {n : ByteArray} {ts : List TkP} (hA : TksAt w A ts) (hm : MayP n ts) : Calls Tryz.prog 33 #[.agg #[.string n, .slice A ts.length c]] w fun e w' => e = .returned (.bool true) ∧ Below w.heap.size w w' :=
  (rfit_is hA hm.few).mono fun e w' h => by
    obtain ⟨⟨b, rfl, hb⟩, hbl⟩ := h
    rw [hb.2 hm]
    exact ⟨rfl, hbl⟩
theorem rfit_no {A : Option Addr} {c : Nat} {n : ByteArray} {ts : List TkP} (hA : TksAt w A ts) (hF : FewT n ts) (hm : ¬ MayP n ts) : Calls Tryz.prog 33 #[.agg #[.string n, .slice A ts.length c]] w fun e w' => e = .returned (.bool false) ∧ Below w.heap.size w w' :=
  (rfit_is hA hF).mono fun e w' h => by
    obtain ⟨⟨b, rfl, hb⟩, hbl⟩ := h
    cases b with
    | false => exact ⟨rfl, hbl⟩
    | true => exact absurd (hb.1 rfl) hm
/-- What New answers. -/
def NewOut (w : World) (z : RunP) (e : Ending) (w' : World) : Prop := ∃ R M X, e = .returned (ptrV R) ∧ rnAt w' M X R z ∧ Below w.heap.size w w' ∧ ∀ i ∈ M, w.heap.size ≤ i
set_option maxHeartbeats 4000000 in
set_option maxRecDepth 100000 in
theorem rnew_is {A : Option Addr} {c : Nat} {n : ByteArray} {ts : List TkP} (hA : TksAt w A ts) (hm : MayP n ts) (now : Int) :
    Calls Tryz.prog 10 #[.agg #[.string n, .slice A ts.length c], .int .i64 now] w (NewOut w (newR n ts now)) := by
  have h8 : ts.length ≤ 8 := hm.right.few.2
  have h1 : 1 ≤ ts.length := hm.right.few.1
  have HA := Lib.hid hA
  have HM := Lib.hid hm
  have b0 := (Below.refl w.heap.size w).alloc (Nat.le_refl _) (.cells #[.string n, .slice A ts.length c] 24)
  have HB0 := Lib.hid b0
  have HX := Lib.hid (made_at w (.cells #[.string n, .slice A ts.length c] 24))
  have HMK := Lib.hid (fun W => run_steps ts.length (by omega) W)
  clear hA hm b0
  go_enter Tryz.func10, Tryz.ntmps10
  go_upto_region 1 with fail
  generalize hW0 : (w.alloc (.cells #[.string n, .slice A ts.length c] 24)) = W0 at *
  clear hW0
  have x0 := cellH HX.out 0
  have x1 := cellH HX.out 1
  simp at x0 x1
  have HF := Lib.hid (rfit_yes (c := c) (HA.out.later HB0.out) HM.out)
  go_wp2_with fail
  refine HF.out.mono ?_
  rintro e w1 ⟨rfl, hb1⟩
  have HX1 := Lib.hid (later_at hb1 HX.out)
  have HB1 := Lib.hid (below_step HB0.out hb1)
  clear hb1 x0 x1 HX HB0 HF
  have hmk := HMK.out
  go_upto_region 3 with fail
  go_cut [5] (fun v wx => ∃ R B g c d X vs, v = ptrV R ∧ Hid (RnC wx X R B g c d ⟨n, ts, List.replicate ts.length noPl, false⟩ vs) ∧ Hid (Below w.heap.size w wx) ∧ Hid (w.heap.size ≤ R ∧ w.heap.size ≤ B))
  case first =>
    refine wp_region_noPanic ?_
    refine wp_region_held_drew (S := fun V => V.heap[w.heap.size]? = some (.cells #[.string n, .slice A ts.length c] 24 (0, 0))) (by kernel_rfl) (by exact HX1.out) (fun hHeld => ?_)
    refine take_yes 0 9 (v := ?_) rfl rfl (by kernel_rfl) (by kernel_rfl) (by kernel_rfl) noPanic_any (by rfl) hHeld ?_ ?_
    rotate_left
    · intro wx hSw; (try dsimp only at hSw); have y0 := cellH hSw 0; have y1 := cellH hSw 1; simp at y0 y1; go_simp <;> with_reducible rfl
    simp only [Act.put, List.setIfInBounds_toArray, List.set_cons_zero, List.set_cons_succ]
    refine take_yes 2 11 (v := ?_) rfl rfl (by kernel_rfl) (by kernel_rfl) (by kernel_rfl) noPanic_any (by rfl) hHeld ?_ ?_
    rotate_left
    · intro wx hSw; (try dsimp only at hSw); go_simp <;> with_reducible rfl
    simp only [Act.put, List.setIfInBounds_toArray, List.set_cons_zero, List.set_cons_succ]
    refine take_yes 3 12 (v := ?_) rfl rfl (by kernel_rfl) (by kernel_rfl) (by kernel_rfl) noPanic_any (by rfl) hHeld ?_ ?_
    rotate_left
    · intro wx hSw; (try dsimp only at hSw); have y1 := cellH hSw 1; simp at y1; go_simp <;> with_reducible rfl
    simp only [Act.put, List.setIfInBounds_toArray, List.set_cons_zero, List.set_cons_succ]
    refine take_yes 4 13 (v := ?_) rfl rfl (by kernel_rfl) (by kernel_rfl) (by kernel_rfl) noPanic_any (by rfl) hHeld ?_ ?_
    rotate_left
    · intro wx hSw; (try dsimp only at hSw); go_simp <;> with_reducible rfl
    simp only [Act.put, List.setIfInBounds_toArray, List.set_cons_zero, List.set_cons_succ]
    have HB3 := Lib.hid HB1.out.drew
    have HA3 := Lib.hid (HA.out.later HB3.out)
    have H20 := Lib.hid (show ∀ t ∈ ts, t.after.length ≤ 20 from fun t ht => (HM.out.few.task t ht).1)
    generalize w1.drew = W3 at *
    refine two_rdyH (i := 1) (j := 5) (by kernel_rfl) (wpOp_step rfl (fun KK hKK => ?_)) (wpOp_step rfl (fun KK hKK => ?_))
    · have HKK := Lib.hid hKK
      clear hKK
      go_simp
      refine (rclone_is HA3.out h1 h8 H20.out).mono ?_
      rintro e W4 ⟨g, c1, X, rfl, hT, hgx, hX, hc1, hb4⟩
      have hHeld := later_at hb4 hHeld
      refine HKK.out _ _ ⟨hHeld, ?_⟩
      clear HKK KK
      have hbb := (Below.refl W4.heap.size W4).alloc (Nat.le_refl _) (.cells (madeCells z9 (ts.length * 9)) 77)
      have HTX := Lib.hid (hT.same (V := W4.alloc (.cells (madeCells z9 (ts.length * 9)) 77)) (X' := X) (hbb.block g (hX g hgx).2) (fun i hi => hbb.block i (hX i hi).2) (fun _ hi => hi))
      have HXL := Lib.hid (show ∀ i ∈ X, i < (W4.alloc (.cells (madeCells z9 (ts.length * 9)) 77)).heap.size from fun i hi => Nat.lt_of_lt_of_le (hX i hi).2 hbb.size)
      have HGX := Lib.hid hgx
      have HST := Lib.hid (StAt.made W4 ts.length)
      have HBX := Lib.hid (show W4.heap.size ∉ X from fun h => by have := (hX _ h).2; omega)
      have HCP := Lib.hid hc1
      have HB5 := Lib.hid (below_step (below_step HB3.out hb4) hbb)
      have HBL := Lib.hid (show w.heap.size ≤ W4.heap.size from by have := HB3.out.size; have := hb4.size; omega)
      have HHB := Lib.hid hbb
      clear hbb hT hgx hX hc1 hb4
      (try simp only [Act.put, List.setIfInBounds_toArray, List.set_cons_zero, List.set_cons_succ])
      refine one_readyH (i := 5) (by kernel_rfl) (wpOp_step rfl (fun KK hKK => ?_))
      have HKK := Lib.hid hKK
      clear hKK
      go_simp
      refine HKK.out _ _ ⟨later_at HHB.out hHeld, ?_⟩
      clear HKK KK
      (try simp only [Act.put, List.setIfInBounds_toArray, List.set_cons_zero, List.set_cons_succ])
      have hHeld := later_at HHB.out hHeld
      clear HHB
      generalize (W4.alloc (.cells (madeCells z9 (ts.length * 9)) 77)) = W5 at *
      generalize W4.heap.size = B at *
      have HRN := Lib.hid (show RnC (W5.alloc (.cells #[.string n, .slice (some ⟨g, 0, none⟩) ts.length c1, .slice (some ⟨B, 0, none⟩) ts.length ts.length, .bool false] 70)) X W5.heap.size B g c1 ts.length ⟨n, ts, List.replicate ts.length noPl, false⟩ (List.replicate ts.length (.slice none 0 0)) from by
        have h := RnC.made (nm := n) (o := false) (d := ts.length) HTX.out HXL.out HGX.out HST.out HBX.out (by simp) ⟨HCP.out, by simp⟩ no_yes
        simpa using h)
      have HBN := Lib.hid (HB5.out.alloc HB5.out.size (.cells #[.string n, .slice (some ⟨g, 0, none⟩) ts.length c1, .slice (some ⟨B, 0, none⟩) ts.length ts.length, .bool false] 70))
      have HRB := Lib.hid (show w.heap.size ≤ W5.heap.size ∧ w.heap.size ≤ B from ⟨HB5.out.size, HBL.out⟩)
      clear HTX HXL HGX HST HBX HCP HB5 HBL
      refine one_readyH (i := 6) (by kernel_rfl) (wpOp_step rfl (fun KK hKK => ?_))
      have HKK := Lib.hid hKK
      clear hKK
      go_simp
      refine HKK.out _ _ ⟨hHeld, ?_⟩
      clear HKK KK
      (try simp only [Act.put, List.setIfInBounds_toArray, List.set_cons_zero, List.set_cons_succ])
      refine one_readyH (i := 7) (by kernel_rfl) (wpOp_step rfl (fun KK hKK => ?_))
      have HKK := Lib.hid hKK
      clear hKK
      go_simp
      refine HKK.out _ _ ⟨later_at ((Below.refl _ _).alloc (Nat.le_refl _) _) hHeld, ?_⟩
      clear HKK KK
      (try simp only [Act.put, List.setIfInBounds_toArray, List.set_cons_zero, List.set_cons_succ])
      have hHeld := later_at ((Below.refl W5.heap.size W5).alloc (Nat.le_refl _) (.cells #[.string n, .slice (some ⟨g, 0, none⟩) ts.length c1, .slice (some ⟨B, 0, none⟩) ts.length ts.length, .bool false] 70)) hHeld
      refine one_readyH (i := 8) (by kernel_rfl) (wpOp_step rfl (fun KK hKK => ?_))
      have HKK := Lib.hid hKK
      clear hKK
      go_simp
      refine HKK.out _ _ ⟨hHeld, ?_⟩
      clear HKK KK
      (try simp only [Act.put, List.setIfInBounds_toArray, List.set_cons_zero, List.set_cons_succ])
      refine wpAnyH_done (by kernel_rfl) ?_ _
      refine NoPanic.normal ?_
      go_wp2_with fail
      go_meet
      exact ⟨W5.heap.size, B, g, c1, _, X, _, rfl, HRN, HBN, HRB⟩
    · have HKK := Lib.hid hKK
      clear hKK
      have hbb := (Below.refl W3.heap.size W3).alloc (Nat.le_refl _) (.cells (madeCells z9 (ts.length * 9)) 77)
      have HST0 := Lib.hid (StAt.made W3 ts.length)
      have HB4 := Lib.hid (below_step HB3.out hbb)
      have HA4 := Lib.hid (HA3.out.later hbb)
      have HBL := Lib.hid (show w.heap.size ≤ W3.heap.size from HB3.out.size)
      have HHB := Lib.hid hbb
      clear hbb
      go_simp
      refine HKK.out _ _ ⟨later_at HHB.out hHeld, ?_⟩
      clear HKK KK
      have hHeld := later_at HHB.out hHeld
      have hB3 : W3.heap.size < (W3.alloc (.cells (madeCells z9 (ts.length * 9)) 77)).heap.size := HST0.out.low
      clear HHB
      generalize (W3.alloc (.cells (madeCells z9 (ts.length * 9)) 77)) = W4 at *
      generalize W3.heap.size = B at *
      (try simp only [Act.put, List.setIfInBounds_toArray, List.set_cons_zero, List.set_cons_succ])
      refine one_readyH (i := 1) (by kernel_rfl) (wpOp_step rfl (fun KK hKK => ?_))
      have HKK := Lib.hid hKK
      clear hKK
      go_simp
      refine (rclone_is HA4.out h1 h8 H20.out).mono ?_
      rintro e W5 ⟨g, c1, X, rfl, hT, hgx, hX, hc1, hb5⟩
      have hHeld := later_at hb5 hHeld
      refine HKK.out _ _ ⟨hHeld, ?_⟩
      clear HKK KK
      have HTX := Lib.hid hT
      have HXL := Lib.hid (fun i hi => (hX i hi).2)
      have HGX := Lib.hid hgx
      have HST := Lib.hid (HST0.out.same (hb5.block B HST0.out.low))
      have HBX := Lib.hid (show B ∉ X from fun h => by have := (hX _ h).1; omega)
      have HCP := Lib.hid hc1
      have HB5 := Lib.hid (below_step HB4.out hb5)
      clear hT hgx hX hc1 hb5 HST0 HB4 hB3
      (try simp only [Act.put, List.setIfInBounds_toArray, List.set_cons_zero, List.set_cons_succ])
      have HRN := Lib.hid (show RnC (W5.alloc (.cells #[.string n, .slice (some ⟨g, 0, none⟩) ts.length c1, .slice (some ⟨B, 0, none⟩) ts.length ts.length, .bool false] 70)) X W5.heap.size B g c1 ts.length ⟨n, ts, List.replicate ts.length noPl, false⟩ (List.replicate ts.length (.slice none 0 0)) from by
        have h := RnC.made (nm := n) (o := false) (d := ts.length) HTX.out HXL.out HGX.out HST.out HBX.out (by simp) ⟨HCP.out, by simp⟩ no_yes
        simpa using h)
      have HBN := Lib.hid (HB5.out.alloc HB5.out.size (.cells #[.string n, .slice (some ⟨g, 0, none⟩) ts.length c1, .slice (some ⟨B, 0, none⟩) ts.length ts.length, .bool false] 70))
      have HRB := Lib.hid (show w.heap.size ≤ W5.heap.size ∧ w.heap.size ≤ B from ⟨HB5.out.size, HBL.out⟩)
      clear HTX HXL HGX HST HBX HCP HB5 HBL
      refine one_readyH (i := 6) (by kernel_rfl) (wpOp_step rfl (fun KK hKK => ?_))
      have HKK := Lib.hid hKK
      clear hKK
      go_simp
      refine HKK.out _ _ ⟨hHeld, ?_⟩
      clear HKK KK
      (try simp only [Act.put, List.setIfInBounds_toArray, List.set_cons_zero, List.set_cons_succ])
      refine one_readyH (i := 7) (by kernel_rfl) (wpOp_step rfl (fun KK hKK => ?_))
      have HKK := Lib.hid hKK
      clear hKK
      go_simp
      refine HKK.out _ _ ⟨later_at ((Below.refl _ _).alloc (Nat.le_refl _) _) hHeld, ?_⟩
      clear HKK KK
      (try simp only [Act.put, List.setIfInBounds_toArray, List.set_cons_zero, List.set_cons_succ])
      have hHeld := later_at ((Below.refl W5.heap.size W5).alloc (Nat.le_refl _) (.cells #[.string n, .slice (some ⟨g, 0, none⟩) ts.length c1, .slice (some ⟨B, 0, none⟩) ts.length ts.length, .bool false] 70)) hHeld
      refine one_readyH (i := 8) (by kernel_rfl) (wpOp_step rfl (fun KK hKK => ?_))
      have HKK := Lib.hid hKK
      clear hKK
      go_simp
      refine HKK.out _ _ ⟨hHeld, ?_⟩
      clear HKK KK
      (try simp only [Act.put, List.setIfInBounds_toArray, List.set_cons_zero, List.set_cons_succ])
      refine wpAnyH_done (by kernel_rfl) ?_ _
      refine NoPanic.normal ?_
      go_wp2_with fail
      go_meet
      exact ⟨W5.heap.size, B, g, c1, _, X, _, rfl, HRN, HBN, HRB⟩
  case rest =>
    obtain ⟨R, B, g, c1, d1, X, vs, rfl, HRN, HBN, HRB⟩ := hcut
    clear HX1 HB1 hmk HMK HA
    have HAD := Lib.hid (radvance_is HRN.out HM.out (by simp) now)
    go_wp2_with fail
    refine HAD.out.mono ?_
    rintro e w4 ⟨rfl, h4, ho4⟩
    have HF := Lib.hid (show NewOut w (newR n ts now) (.returned (ptrV R)) w4 from ⟨R, [R, B], X, rfl, ⟨B, g, c1, d1, vs, rfl, h4⟩, ho4.low HBN.out (fun i hi => by simp at hi; rcases hi with rfl | rfl; exact HRB.out.1; exact HRB.out.2), fun i hi => by simp at hi; rcases hi with rfl | rfl; exact HRB.out.1; exact HRB.out.2⟩)
    clear h4 ho4
    go_wp2_with fail
    go_ret
    exact HF.out
end
end Go.Proofs.YtfjaibaidpbppaaGreatDoor
