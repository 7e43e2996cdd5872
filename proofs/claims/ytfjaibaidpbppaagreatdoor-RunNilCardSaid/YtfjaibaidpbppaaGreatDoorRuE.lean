/-
  The program's run: has, State, Status, and what is wrong with a call that needs a place. Conditions: eight tasks at most. The program's run advances: what waits, of whose After all are done, is opened. Conditions: a run of a pipeline that may be.
-/
import Derived.Test.YtfjaibaidpbppaaGreatDoorRuC
import Derived.Test.YtfjaibaidpbppaaGreatDoorOrdD
import Derived.Test.YtfjaibaidpbppaaGreatDoorLsOk
import Derived.Deep.OwnRows
namespace Go.Proofs.YtfjaibaidpbppaaGreatDoor
open Go.RowKit

def hasB (z : RunP) (i : Int) : Bool := decide (0 ≤ i) && decide (i < (z.ps.length : Int))
/-- How many of them aren't done. -/
def notD (l : List PlP) : Nat := (l.filter fun p => !(p.tr.st == 3)).length
theorem notD_take {l : List PlP} {k : Nat} {p : PlP} (hp : l[k]? = some p) : notD (l.take (k + 1)) = notD (l.take k) + (if p.tr.st = 3 then 0 else 1) := by
  unfold notD
  rw [List.take_add_one, hp, List.filter_append, List.length_append]
  by_cases h : p.tr.st = 3
  · simp [h]
  · simp [h]
theorem notD_le (l : List PlP) (k : Nat) : notD (l.take k) ≤ k := by
  unfold notD
  refine Nat.le_trans (List.length_filter_le _ _) ?_
  rw [List.length_take]
  omega
theorem notD_zero {l : List PlP} : notD l = 0 ↔ l.all (fun p => p.tr.st == 3) = true := by
  unfold notD
  rw [List.length_eq_zero_iff, List.filter_eq_nil_iff, List.all_eq_true]
  simp
/-- None of the first k has failed. -/
def NoF (l : List PlP) (k : Nat) : Prop := ∀ (i : Nat) p, i < k → l[i]? = some p → p.tr.st ≠ 4
theorem NoF.next {l : List PlP} {k : Nat} {p : PlP} (h : NoF l k) (hp : l[k]? = some p) (hn : p.tr.st ≠ 4) : NoF l (k + 1) := fun i q hi hq => by
  by_cases e : i = k
  · rw [e, hp] at hq
    injection hq with hq
    rw [← hq]; exact hn
  · exact h i q (by omega) hq
theorem NoF.none {l : List PlP} (h : NoF l l.length) : l.any (fun p => p.tr.st == 4) = false := by
  rw [List.any_eq_false]
  intro p hp
  obtain ⟨i, hi⟩ := List.mem_iff_getElem?.1 hp
  have := h i p (List.getElem?_eq_some_iff.1 hi).1 hi
  simp [this]
theorem rstat_over {z : RunP} (h : z.over = true) : statR z = 3 := by unfold statR; rw [if_pos h]
theorem rstat_fail {z : RunP} {k : Nat} {p : PlP} (h : z.over = false) (hp : z.ps[k]? = some p) (hf : p.tr.st = 4) : statR z = 2 := by
  unfold statR
  rw [if_neg (by simp [h]), if_pos (List.any_eq_true.2 ⟨p, List.mem_of_getElem? hp, by simp [hf]⟩)]
theorem rstat_end {z : RunP} (h : z.over = false) (hn : NoF z.ps z.ps.length) : statR z = if notD z.ps = 0 then 1 else 0 := by
  unfold statR
  rw [if_neg (by simp [h]), hn.none, if_neg (by simp)]
  by_cases hd : notD z.ps = 0
  · rw [if_pos (notD_zero.1 hd), if_pos hd]
  · rw [if_neg (fun h2 => hd (notD_zero.2 h2)), if_neg hd]
section
variable {w : World} {X : List Nat} {R B g c d : Nat} {z : RunP} {vs : List Value}
set_option maxHeartbeats 1000000 in
set_option maxRecDepth 100000 in
theorem rhas_is (h : RnC w X R B g c d z vs) (i : Int) : Calls Tryz.prog 57 #[ptrV R, .int .i64 i] w fun e w' => e = .returned (.bool (hasB z i)) ∧ w = w' := by
  obtain ⟨_, _, x2, _⟩ := h.cells
  obtain ⟨b, hb⟩ : ∃ b, b = hasB z i := ⟨_, rfl⟩
  rw [← hb]
  have HBB := Lib.hid hb
  clear hb h
  by_cases h0 : 0 ≤ i
  · have n0 : (0 ≤ i) = True := eq_true h0
    have HE := Lib.hid (show b = decide (i < (z.ps.length : Int)) by rw [HBB.out, hasB, decide_eq_true h0, Bool.true_and])
    clear n0
    go_enter Tryz.func57, Tryz.ntmps57
    go_wp2_with fail
    go_ret
    exact ⟨by rw [HE.out]; rfl, rfl⟩
  · have HE := Lib.hid (show b = false by rw [HBB.out, hasB, decide_eq_false h0, Bool.false_and])
    go_enter Tryz.func57, Tryz.ntmps57
    go_wp2_with fail
    go_ret
    exact ⟨by rw [HE.out]; rfl, rfl⟩
theorem hasB_nat {z : RunP} {i : Int} (h : hasB z i = true) : ∃ k : Nat, i = k ∧ k < z.ps.length := by
  unfold hasB at h
  simp only [Bool.and_eq_true, decide_eq_true_eq] at h
  exact ⟨i.toNat, by omega, by omega⟩
theorem hasB_no {z : RunP} {i : Int} (h : hasB z i = false) : i < 0 ∨ (z.ps.length : Int) ≤ i := by
  unfold hasB at h
  simp only [Bool.and_eq_false_iff, decide_eq_false_iff_not] at h
  omega
theorem pl_of {z : RunP} {k : Nat} {p : PlP} (hp : z.ps[k]? = some p) : z.pl k = p := by unfold RunP.pl; rw [List.getD_eq_getElem?_getD, hp]; rfl
theorem tk_of {z : RunP} {k : Nat} {t : TkP} (ht : z.ts[k]? = some t) : z.tk k = t := by unfold RunP.tk; rw [List.getD_eq_getElem?_getD, ht]; rfl
set_option maxHeartbeats 1000000 in
set_option maxRecDepth 100000 in
theorem rstate_is (h : RnC w X R B g c d z vs) (i : Int) : Calls Tryz.prog 29 #[ptrV R, .int .i64 i] w fun e w' => e = .returned (.int .i64 (stateR z i)) ∧ w = w' := by
  have HH := Lib.hid (rhas_is h i)
  obtain ⟨_, _, x2, _⟩ := h.cells
  obtain ⟨r, hr⟩ : ∃ r, r = stateR z i := ⟨_, rfl⟩
  rw [← hr]
  have HR := Lib.hid hr
  clear hr
  cases hb : hasB z i with
  | false =>
    rw [hb] at HH
    have hn := hasB_no hb
    have HE := Lib.hid (show r = -1 by rw [HR.out, stateR, if_pos hn])
    clear hb hn h
    go_enter Tryz.func29, Tryz.ntmps29
    go_wp2_with (go_at_call 57; refine HH.out.mono ?_; rintro e w1 ⟨rfl, rfl⟩)
    go_ret
    exact ⟨by rw [HE.out]; rfl, rfl⟩
  | true =>
    rw [hb] at HH
    obtain ⟨k, rfl, hk⟩ := hasB_nat hb
    obtain ⟨p, hp⟩ : ∃ p, z.ps[k]? = some p := ⟨_, List.getElem?_eq_getElem hk⟩
    obtain ⟨Y, e, hv, _, _, hc⟩ := h.step hp
    have p0 : w.cell? ⟨B, k * 9, none⟩ = some (.int .i64 p.tr.st) := hc 0 _ rfl
    have HE := Lib.hid (show r = p.tr.st by rw [HR.out, stateR, if_neg (by omega), Int.toNat_natCast, pl_of hp])
    have hk0 : (0 : Int) ≤ (k : Int) := by omega
    have hkl : (k : Int) < (z.ps.length : Int) := by omega
    clear hb h hc hv hp
    go_enter Tryz.func29, Tryz.ntmps29
    go_wp2_with (go_at_call 57; refine HH.out.mono ?_; rintro e w1 ⟨rfl, rfl⟩)
    go_ret
    exact ⟨by rw [HE.out]; rfl, rfl⟩
set_option maxHeartbeats 2000000 in
set_option maxRecDepth 100000 in
theorem rstatus_is (h : RnC w X R B g c d z vs) (h8 : z.ps.length ≤ 8) : Calls Tryz.prog 16 #[ptrV R] w fun e w' => e = .returned (.int .i64 (statR z)) ∧ Below w.heap.size w w' := by
  obtain ⟨_, _, x2, x3⟩ := h.cells
  obtain ⟨r, hr⟩ : ∃ r, r = statR z := ⟨_, rfl⟩
  rw [← hr]
  have HR := Lib.hid hr
  have HA := Lib.hid h
  clear hr h
  cases hov : z.over with
  | true =>
    have HE := Lib.hid (show r = 3 by rw [HR.out, rstat_over hov])
    rw [hov] at x3
    clear hov
    go_enter Tryz.func16, Tryz.ntmps16
    go_wp2_with fail
    go_ret
    exact ⟨by rw [HE.out]; rfl, Below.refl _ _⟩
  | false =>
    rw [hov] at x3
    have HOV := Lib.hid hov
    clear hov
    go_enter Tryz.func16, Tryz.ntmps16
    go_wp2_with fail
    clear x2 x3
    go_loopw [3, 24] (fun l i wr => ∃ (k : Nat) (m : Int), l = .int .i64 m ∧ i = .int .i64 k ∧ k ≤ z.ps.length ∧ m = (z.ps.length : Int) - k + notD (z.ps.take k) ∧ Hid (NoF z.ps k) ∧ Hid (Below w.heap.size w wr)) (fun _ i _ => z.ps.length - (intOf i).toNat)
    case atStart => exact ⟨0, _, rfl, rfl, Nat.zero_le _, by simp [notD], Lib.hid (fun i p hi => by omega), Lib.hid (Below.refl _ _)⟩
    case round =>
      obtain ⟨k, m, rfl, rfl, hk, hm, HN, HB⟩ := hrel
      have hnd := notD_le z.ps k
      by_cases hlt : k < z.ps.length
      · obtain ⟨p, hp⟩ : ∃ p, z.ps[k]? = some p := ⟨_, List.getElem?_eq_getElem hlt⟩
        obtain ⟨Y, e, hv, _, _, hc⟩ := (HA.out.later HB.out).step hp
        have p0 : wr.cell? ⟨B, k * 9, none⟩ = some (.int .i64 p.tr.st) := hc 0 _ rfl
        have p1 := hc 1 _ rfl
        have p2 := hc 2 _ rfl
        have p3 := hc 3 _ rfl
        have p4 := hc 4 _ rfl
        have p5 := hc 5 _ rfl
        have p6 := hc 6 _ rfl
        have p7 := hc 7 _ rfl
        have p8 := hc 8 _ rfl
        have HT := Lib.hid (notD_take hp)
        have HP := Lib.hid hp
        have HM := Lib.hid hm
        have hm0 : 0 < m := by omega
        have hm8 : m ≤ 8 := by omega
        have hk0 : (0 : Int) ≤ (k : Int) := by omega
        have hkl : (k : Int) < (z.ps.length : Int) := by omega
        clear hc hv hp hm hnd
        go_upto_region 9 with fail
        have hbc := (Below.refl wr.heap.size wr).alloc (Nat.le_refl _) (.cells (stC p (.slice Y p.yes.length e)).toArray 77)
        have HB2 := Lib.hid (below_step HB.out hbc)
        have hmc := made_at wr (.cells (stC p (.slice Y p.yes.length e)).toArray 77)
        have HMC := Lib.hid hmc
        clear hbc hmc HB p0 p1 p2 p3 p4 p5 p6 p7 p8
        have hW2 : wr.alloc (.cells (stC p (.slice Y p.yes.length e)).toArray 77) = wr.alloc (.cells #[.int .i64 p.tr.st, .int .i64 p.tr.sn, .int .i64 p.tr.ms, .int .i64 p.tr.wk, .int .i64 p.tr.ls, .int .i64 p.tr.un, .string p.out, .slice Y p.yes.length e, .bool p.no] 77) := rfl
        rw [hW2] at HB2 HMC
        clear hW2
        generalize hW2 : wr.alloc _ = W2 at *
        clear hW2
        have p0 := cellH HMC.out 0
        simp [stC] at p0
        by_cases h4 : p.tr.st = 4
        · have HE := Lib.hid (show r = 2 by rw [HR.out]; exact rstat_fail HOV.out HP.out h4)
          have n4 : (p.tr.st == 4) = true := beq_iff_eq.2 h4
          clear h4
          go_wp2_with fail
          go_ret
          exact ⟨by rw [HE.out]; rfl, HB2.out⟩
        · have HN2 := Lib.hid (HN.out.next HP.out h4)
          have n4 : (p.tr.st == 4) = false := beq_eq_false_iff_ne.2 h4
          by_cases h3 : p.tr.st = 3
          · have n3 : (p.tr.st == 3) = true := beq_iff_eq.2 h3
            have HQ := Lib.hid (show m - 1 = (z.ps.length : Int) - ((k + 1 : Nat) : Int) + (notD (z.ps.take (k + 1)) : Int) by rw [HT.out, if_pos h3, HM.out]; omega)
            clear h3 h4
            go_wp2_with fail
            go_roundw
            case rel => exact ⟨k + 1, m - 1, rfl, by go_num, by omega, HQ.out, HN2, HB2⟩
            case measure => simp [intOf]; omega
          · have n3 : (p.tr.st == 3) = false := beq_eq_false_iff_ne.2 h3
            have HQ := Lib.hid (show m = (z.ps.length : Int) - ((k + 1 : Nat) : Int) + (notD (z.ps.take (k + 1)) : Int) by rw [HT.out, if_neg h3, HM.out]; omega)
            clear h3 h4
            go_wp2_with fail
            go_roundw
            case rel => exact ⟨k + 1, m, rfl, by go_num, by omega, HQ.out, HN2, HB2⟩
            case measure => simp [intOf]; omega
      · obtain rfl : k = z.ps.length := by omega
        have hlk : ¬ (z.ps.length : Int) < (z.ps.length : Int) := by omega
        rw [List.take_length] at hm hnd
        have HS := Lib.hid (rstat_end HOV.out HN.out)
        by_cases hz : notD z.ps = 0
        · have HE := Lib.hid (show r = 1 by rw [HR.out, HS.out, if_pos hz])
          have hm0 : m = 0 := by omega
          subst hm0
          clear hm hz
          go_wp2_with fail
          go_ret
          exact ⟨by rw [HE.out]; rfl, HB.out⟩
        · have HE := Lib.hid (show r = 0 by rw [HR.out, HS.out, if_neg hz])
          have hm0 : 0 < m := by omega
          clear hm hz
          go_wp2_with fail
          go_ret
          exact ⟨by rw [HE.out]; rfl, HB.out⟩
end
end Go.Proofs.YtfjaibaidpbppaaGreatDoor

namespace Go.Proofs.YtfjaibaidpbppaaGreatDoor
open Go.RowKit

section
variable {w : World} {A D : Option Addr} {c d : Nat} {n : ByteArray} {ts : List TkP}
set_option maxHeartbeats 1000000 in
set_option maxRecDepth 100000 in
theorem oready_new {ds : List Bool} (hA : TksAt w A ts) (hp : RightPi ⟨n, ts⟩) (hD : BoolsAt w D ds) :
    Calls Tryz.prog 68 #[.agg #[.string n, .slice A ts.length c], .slice D ds.length d] w fun e w' => (∃ B b, e = .returned (.slice B (readyP ⟨n, ts⟩ ds).length b) ∧ NatsAt w' B (readyP ⟨n, ts⟩ ds) ∧ ∀ ad, B = some ad → w.heap.size ≤ ad.block) ∧ Below w.heap.size w w' := by
  rw [← readyK_all]
  have b0 := (Below.refl w.heap.size w).alloc (Nat.le_refl _) (.cells #[.string n, .slice A ts.length c] 24)
  have HX := Lib.hid (made_at w (.cells #[.string n, .slice A ts.length c] 24))
  have HA := Lib.hid (hA.later b0)
  have HD := Lib.hid (hD.later b0)
  have HP := Lib.hid hp
  have HB0 := Lib.hid b0
  have h8 : ts.length ≤ 8 := hp.few.2
  clear b0 hA hD hp
  go_enter Tryz.func68, Tryz.ntmps68
  go_upto_region 1 with fail
  generalize hW0 : (w.alloc (.cells #[.string n, .slice A ts.length c] 24)) = W0 at *
  clear hW0
  have x0 := cellH HX.out 0
  have x1 := cellH HX.out 1
  simp at x0 x1
  go_wp2_with fail
  refine (mright_is (p := ⟨n, ts⟩) HA.out HP.out).mono ?_
  rintro e w1 ⟨rfl, hb1⟩
  have HB1 := Lib.hid hb1
  have HX1 := Lib.hid (later_at hb1 HX.out)
  clear hb1 x0 x1
  have x1 := cellH HX1.out 1
  simp at x1
  go_wp2_with fail
  refine (readyT_is (HA.out.later HB1.out) (HD.out.later HB1.out) h8 HP.out.afts).mono ?_
  rintro e w2 ⟨⟨B, b, rfl, hN, hO⟩, hb2⟩
  have HN := Lib.hid hN
  have HO := Lib.hid (show ∀ ad, B = some ad → w.heap.size ≤ ad.block from fun ad e => by have := hO ad e; have := HB1.out.size; have := HB0.out.size; omega)
  have HB2 := Lib.hid (below_step HB0.out (below_step HB1.out hb2))
  clear hN hO hb2
  go_wp2_with fail
  go_ret
  exact ⟨⟨_, _, rfl, HN.out, HO.out⟩, HB2.out⟩
end
/-! Opening, in plain words. -/
def openPl (now : Int) (p : PlP) : PlP := { p with tr := openP p.tr now }
def openAt (now : Int) (ps : List PlP) (i : Nat) : List PlP := ps.set i (openPl now (ps.getD i noPl))
theorem openAt_len (now : Int) (ps : List PlP) (i : Nat) : (openAt now ps i).length = ps.length := List.length_set ..
theorem open_fold (now : Int) : ∀ (l : List Nat) (ps : List PlP), l.Nodup → (∀ i ∈ l, i < ps.length) → ∀ i : Nat, (l.foldl (openAt now) ps)[i]? = (ps[i]?).map (fun p => if i ∈ l then openPl now p else p)
  | [], ps, _, _, i => by simp
  | x :: l, ps, hn, hl, i => by
    rw [List.nodup_cons] at hn
    have hx := hl x (List.mem_cons_self ..)
    rw [List.foldl_cons, open_fold now l (openAt now ps x) hn.2 (fun j hj => by rw [openAt_len]; exact hl j (List.mem_cons_of_mem _ hj)) i]
    unfold openAt
    by_cases hix : i = x
    · subst hix
      rw [List.getElem?_set_self hx, List.getElem?_eq_getElem hx, List.getD_eq_getElem?_getD, List.getElem?_eq_getElem hx]
      simp [hn.1]
    · rw [List.getElem?_set_ne (fun e => hix e.symm)]
      congr 1
      funext p
      by_cases hm : i ∈ l
      · simp [hm]
      · simp [hm, hix]
/-- Which are done. -/
def doneL (ps : List PlP) : List Bool := ps.map fun p => p.tr.st == 3
theorem doneL_get (ps : List PlP) (a : Nat) : (doneL ps).getD a false = ((ps.getD a noPl).tr.st == 3) := by
  unfold doneL
  rw [List.getD_eq_getElem?_getD, List.getElem?_map, List.getD_eq_getElem?_getD]
  cases ps[a]? with
  | none => rfl
  | some p => rfl
theorem readyP_nodup (p : PiP) (ds : List Bool) : (readyP p ds).Nodup := List.Pairwise.sublist List.filter_sublist List.nodup_range
theorem open_ready {n : ByteArray} {ts : List TkP} {ps : List PlP} (hl : ps.length = ts.length) (now : Int) : (readyP ⟨n, ts⟩ (doneL ps)).foldl (openAt now) ps = List.zipWith (advPl ps now) ts ps := by
  refine List.ext_getElem? fun i => ?_
  rw [open_fold now _ _ (readyP_nodup _ _) (fun j hj => by
    unfold readyP at hj
    rw [List.mem_filter, List.mem_range] at hj
    rw [hl]; exact hj.1), List.getElem?_zipWith]
  by_cases hi : i < ts.length
  · have h1 := List.getElem?_eq_getElem (l := ts) (i := i) hi
    have h2 := List.getElem?_eq_getElem (l := ps) (i := i) (by omega)
    rw [h1, h2]
    show some (if i ∈ readyP ⟨n, ts⟩ (doneL ps) then openPl now (ps[i]'(by omega)) else ps[i]'(by omega)) = some _
    congr 1
    have hm : i ∈ readyP ⟨n, ts⟩ (doneL ps) ↔ ((ps[i]'(by omega)).tr.st ≠ 3 ∧ plDone ps (ts[i]).after = true) := by
      unfold readyP
      rw [List.mem_filter, List.mem_range, doneL_get]
      have e1 : ts.getD i ⟨⟨#[]⟩, [], 0, 0, 0, 0, 0⟩ = ts[i] := by rw [List.getD_eq_getElem?_getD, h1]; rfl
      have e2 : ps.getD i noPl = ps[i]'(by omega) := by rw [List.getD_eq_getElem?_getD, h2]; rfl
      show (i < ts.length ∧ (!((ps.getD i noPl).tr.st == 3) && (ts.getD i ⟨⟨#[]⟩, [], 0, 0, 0, 0, 0⟩).after.all fun a => (doneL ps).getD a false) = true) ↔ _
      rw [e1, e2]
      unfold plDone
      simp only [doneL_get, Bool.and_eq_true, Bool.not_eq_true', beq_eq_false_iff_ne]
      exact ⟨fun h => h.2, fun h => ⟨hi, h⟩⟩
    unfold advPl
    by_cases hd : plDone ps (ts[i]).after = true
    · rw [if_pos hd]
      by_cases h3 : (ps[i]'(by omega)).tr.st = 3
      · rw [if_neg (fun h => (hm.1 h).1 h3)]
        unfold openP
        rw [if_neg (by omega)]
      · rw [if_pos (hm.2 ⟨h3, hd⟩)]
        rfl
    · rw [if_neg hd, if_neg (fun h => hd (hm.1 h).2)]
  · rw [List.getElem?_eq_none (by omega), List.getElem?_eq_none (by omega)]
    rfl
/-- Truths in a block. -/
def BlRow (W : World) (D : Nat) (ds : List Bool) : Prop := ∃ cs, W.heap[D]? = some (.cells cs 4 (0, 0)) ∧ ∀ (i : Nat) b, ds[i]? = some b → cs[i]? = some (.bool b)
section
variable {W V : World} {D : Nat} {ds : List Bool}
theorem BlRow.same (h : BlRow W D ds) (hk : V.heap[D]? = W.heap[D]?) : BlRow V D ds := by
  obtain ⟨cs, h1, h2⟩ := h
  exact ⟨cs, hk.trans h1, h2⟩
theorem BlRow.low (h : BlRow W D ds) : D < W.heap.size := by
  obtain ⟨cs, h1, _⟩ := h
  exact (Array.getElem?_eq_some_iff.1 h1).1
theorem BlRow.cell (h : BlRow W D ds) {i : Nat} {b : Bool} (hb : ds[i]? = some b) : W.cell? ⟨D, i, none⟩ = some (.bool b) := by
  obtain ⟨cs, h1, h2⟩ := h
  rw [cellH h1]
  exact h2 i b hb
theorem BlRow.free (h : BlRow W D ds) (i : Nat) : W.frozen? ⟨D, i, none⟩ = false := by
  obtain ⟨cs, h1, _⟩ := h
  exact freeH h1 i
theorem BlRow.set (h : BlRow W D ds) {k : Nat} (hk : k < ds.length) (b : Bool) : BlRow (W.setCell ⟨D, k, none⟩ (.bool b)) D (ds.set k b) := by
  obtain ⟨cs, h1, h2⟩ := h
  have hlt := (Array.getElem?_eq_some_iff.1 (h2 k _ (List.getElem?_eq_getElem hk))).1
  refine ⟨cs.setIfInBounds k (.bool b), row_set h1, fun i x hx => ?_⟩
  by_cases hik : i = k
  · subst hik
    rw [List.getElem?_set_self hk] at hx
    injection hx with hx
    rw [Array.getElem?_setIfInBounds_self_of_lt hlt, hx]
  · rw [List.getElem?_set_ne (fun e => hik e.symm)] at hx
    rw [Array.getElem?_setIfInBounds_ne (fun e => hik e.symm)]
    exact h2 i x hx
theorem BlRow.bools (h : BlRow W D ds) : BoolsAt W (some ⟨D, 0, none⟩) ds := fun _ => ⟨_, rfl, fun i b hb => by rw [add0]; exact h.cell hb⟩
theorem BlRow.made (W : World) (n : Nat) : BlRow (W.alloc (.cells (madeCells #[.bool false] n) 4)) W.heap.size (List.replicate n false) := by
  refine ⟨_, made_at _ _, fun i b hb => ?_⟩
  rw [← Array.getElem?_toList, toList_madeCells_one]
  rw [List.getElem?_replicate] at hb ⊢
  split at hb
  · rename_i h
    injection hb with hb
    rw [if_pos h, hb]
  · cases hb
end
/-- The truths of the first k. -/
def DoneK (ps : List PlP) (ds : List Bool) (k : Nat) : Prop := ds.length = ps.length ∧ ∀ (i : Nat) p, i < k → ps[i]? = some p → ds[i]? = some (p.tr.st == 3)
theorem DoneK.next {ps : List PlP} {ds : List Bool} {k : Nat} {p : PlP} (h : DoneK ps ds k) (hp : ps[k]? = some p) : DoneK ps (ds.set k (p.tr.st == 3)) (k + 1) := by
  have hk := (List.getElem?_eq_some_iff.1 hp).1
  refine ⟨by rw [List.length_set]; exact h.1, fun i q hi hq => ?_⟩
  by_cases e : i = k
  · subst e
    rw [hp] at hq
    injection hq with hq
    rw [List.getElem?_set_self (by rw [h.1]; exact hk), hq]
  · rw [List.getElem?_set_ne (fun e2 => e e2.symm)]
    exact h.2 i q (by omega) hq
theorem DoneK.all {ps : List PlP} {ds : List Bool} (h : DoneK ps ds ps.length) : ds = doneL ps := by
  refine List.ext_getElem? fun i => ?_
  unfold doneL
  rw [List.getElem?_map]
  by_cases hi : i < ps.length
  · rw [h.2 i _ hi (List.getElem?_eq_getElem hi), List.getElem?_eq_getElem hi]
    rfl
  · rw [List.getElem?_eq_none (by rw [h.1]; omega), List.getElem?_eq_none (by omega)]
    rfl
theorem fold_takeR {α β : Type} {f : β → α → β} {l : List α} {b : β} {k : Nat} {x : α} (hx : l[k]? = some x) : (l.take (k + 1)).foldl f b = f ((l.take k).foldl f b) x := by
  rw [List.take_add_one, hx, List.foldl_append]
  rfl
theorem openF_len (now : Int) (l : List Nat) (ps : List PlP) : (l.foldl (openAt now) ps).length = ps.length := by
  induction l generalizing ps with
  | nil => rfl
  | cons x l ih => rw [List.foldl_cons, ih, openAt_len]
/-- Whatever is new: a class of worlds for regions that draw. -/
theorem held_below (W : World) : ∃ S : World → Prop, S W.drew ∧ (∀ v v', S v → Below v.heap.size v v' → S v') ∧ (∀ x : HeldW S, Below W.heap.size W x.w) ∧ ∀ v, S v → Below W.heap.size W v :=
  ⟨fun V => Below W.heap.size W V, (Below.refl _ _).drew, fun _ _ h hb => below_step h hb, fun x => x.ok, fun _ h => h⟩
section
variable {w : World} {X : List Nat} {R B g c d : Nat} {z : RunP} {vs : List Value}
theorem RnC.free (h : RnC w X R B g c d z vs) : ∀ i, w.frozen? ⟨B, i, none⟩ = false := h.steps.free
/-- What a call leaves that answers nothing: the run, turned. -/
def RcT (w : World) (X : List Nat) (R B g c d : Nat) (z : RunP) (vs : List Value) (e : Ending) (w' : World) : Prop := e = .returned (.tuple #[]) ∧ RnC w' X R B g c d z vs ∧ OnlyO [R, B] w w'
theorem RnC.pipeSame (h : RnC w X R B g c d z vs) (ps : List PlP) (hp : ps = z.ps) : RnC w X R B g c d { z with ps := ps } vs := by subst hp; exact h
set_option maxHeartbeats 4000000 in
set_option maxRecDepth 100000 in
theorem radvance_is (h : RnC w X R B g c d z vs) (hm : MayP z.pn z.ts) (hl : z.ps.length = z.ts.length) (now : Int) :
    Calls Tryz.prog 35 #[ptrV R, .int .i64 now] w (RcT w X R B g c d (advR z now) vs) := by
  obtain ⟨_, _, x2, _⟩ := h.cells
  have h8 : z.ps.length ≤ 8 := by rw [hl]; exact hm.right.few.2
  have HMP := Lib.hid hm
  have HL := Lib.hid hl
  have hmk : ∀ W : World, (Instr.makeSlice 108 (.int .i64 (z.ps.length : Int)) (.int .i64 (z.ps.length : Int))).run Tryz.prog W = .ok (.slice (some ⟨W.heap.size, 0, none⟩) z.ps.length z.ps.length) (W.alloc (.cells (madeCells #[.bool false] z.ps.length) 4)) := fun W => run_make_row' 108 4 (.bool false) 1 Tryz.underlying108 info_boolO rfl .i64 .i64 z.ps.length (by omega) (by omega) W
  have hb0 := (Below.refl w.heap.size w).alloc (Nat.le_refl _) (.cells (madeCells #[.bool false] z.ps.length) 4)
  have HA0 := Lib.hid (h.later hb0)
  have HA := Lib.hid h
  have HB0 := Lib.hid hb0
  have HD0 := Lib.hid (BlRow.made w z.ps.length)
  have HRB := Lib.hid (show R < w.heap.size ∧ B < w.heap.size from ⟨h.rlow, h.steps.low⟩)
  clear hm hl h hb0
  go_enter Tryz.func35, Tryz.ntmps35
  go_upto_region 1 with fail
  generalize hW0 : w.alloc _ = W0 at *
  clear hW0 hmk x2
  obtain ⟨D, hD⟩ : ∃ D, D = w.heap.size := ⟨_, rfl⟩
  rw [← hD] at HD0 ⊢
  have HDW := Lib.hid hD
  clear hD
  obtain ⟨_, _, x2, _⟩ := HA0.out.cells
  go_wp2_with fail
  clear x2
  go_loopw [20] (fun i wr => ∃ (k : Nat) (ds : List Bool), i = .int .i64 k ∧ k ≤ z.ps.length ∧ Hid (DoneK z.ps ds k) ∧ Hid (BlRow wr D ds) ∧ Hid (Below w.heap.size w wr)) (fun i _ => z.ps.length - (intOf i).toNat)
  case atStart => exact ⟨0, _, rfl, Nat.zero_le _, Lib.hid ⟨by simp, fun i p hi => by omega⟩, HD0, HB0⟩
  case round =>
    obtain ⟨k, ds, rfl, hk, HK, HD, HB⟩ := hrel
    by_cases hlt : k < z.ps.length
    · obtain ⟨p, hp⟩ : ∃ p, z.ps[k]? = some p := ⟨_, List.getElem?_eq_getElem hlt⟩
      obtain ⟨Y, e, hv, _, _, hc⟩ := (HA.out.later HB.out).step hp
      have p0 : wr.cell? ⟨B, k * 9, none⟩ = some (.int .i64 p.tr.st) := hc 0 _ rfl
      have p1 := hc 1 _ rfl
      have p2 := hc 2 _ rfl
      have p3 := hc 3 _ rfl
      have p4 := hc 4 _ rfl
      have p5 := hc 5 _ rfl
      have p6 := hc 6 _ rfl
      have p7 := hc 7 _ rfl
      have p8 := hc 8 _ rfl
      have HN := Lib.hid (HK.out.next hp)
      have hk0 : (0 : Int) ≤ (k : Int) := by omega
      have hkl : (k : Int) < (z.ps.length : Int) := by omega
      clear hc hv hp
      go_upto_region 4 with fail
      have hbc := (Below.refl wr.heap.size wr).alloc (Nat.le_refl _) (.cells #[.int .i64 p.tr.st, .int .i64 p.tr.sn, .int .i64 p.tr.ms, .int .i64 p.tr.wk, .int .i64 p.tr.ls, .int .i64 p.tr.un, .string p.out, .slice Y p.yes.length e, .bool p.no] 77)
      have HB2 := Lib.hid (below_step HB.out hbc)
      have HMC := Lib.hid (made_at wr (.cells #[.int .i64 p.tr.st, .int .i64 p.tr.sn, .int .i64 p.tr.ms, .int .i64 p.tr.wk, .int .i64 p.tr.ls, .int .i64 p.tr.un, .string p.out, .slice Y p.yes.length e, .bool p.no] 77))
      have HD2 := Lib.hid (HD.out.same (hbc.block D HD.out.low))
      have HDL := Lib.hid HK.out.1
      clear hbc HB HD p0 p1 p2 p3 p4 p5 p6 p7 p8
      generalize hW2 : wr.alloc _ = W2 at *
      clear hW2
      have p0 := cellH HMC.out 0
      simp at p0
      obtain ⟨o, ho⟩ : ∃ o, ds[k]? = some o := ⟨_, List.getElem?_eq_getElem (by rw [HDL.out]; exact hlt)⟩
      have q0 := HD2.out.cell ho
      have qf := HD2.out.free k
      have HS := Lib.hid (HD2.out.set (k := k) (by rw [HDL.out]; exact hlt) (p.tr.st == 3))
      have HB3 := Lib.hid (HB2.out.setCell (p := ⟨D, k, none⟩) (by show w.heap.size ≤ D; rw [HDW.out]; exact Nat.le_refl _) (.bool (p.tr.st == 3)))
      clear ho
      go_wp2_with fail
      go_roundw
      case rel => exact ⟨k + 1, _, by go_num, by omega, HN, HS, HB3⟩
      case measure => simp [intOf]; omega
    · obtain rfl : k = z.ps.length := by omega
      have hlk : ¬ (z.ps.length : Int) < (z.ps.length : Int) := by omega
      obtain rfl := HK.out.all
      have hA1 := HA.out.later HB.out
      obtain ⟨x0, x1, _, _⟩ := hA1.cells
      have hdl : (doneL z.ps).length = z.ps.length := by simp [doneL]
      have ho := oready_new (c := c) (d := z.ps.length) hA1.tasks.tks HMP.out.right HD.out.bools
      rw [hdl] at ho
      obtain ⟨l, hll⟩ : ∃ l, l = readyP ⟨z.pn, z.ts⟩ (doneL z.ps) := ⟨_, rfl⟩
      rw [← hll] at ho
      have HO := Lib.hid ho
      have HLL := Lib.hid hll
      have hl8 : l.length ≤ 8 := by
        rw [hll]
        exact Nat.le_trans (readyP_len _ _) (by show z.ts.length ≤ 8; rw [← HL.out]; exact h8)
      have HLP := Lib.hid (show ∀ i ∈ l, i < z.ps.length from fun i hi => by
        rw [hll] at hi
        unfold readyP at hi
        rw [List.mem_filter, List.mem_range] at hi
        rw [HL.out]; exact hi.1)
      clear ho hll hdl hA1 HK HD
      go_wp2_with fail
      refine HO.out.mono ?_
      rintro e w1 ⟨⟨B1, b1, rfl, hN, hO⟩, hb1⟩
      have HB1 := Lib.hid (below_step HB.out hb1)
      have HA1 := Lib.hid (HA.out.later HB1.out)
      have HOB := Lib.hid (show ∀ ad, B1 = some ad → ad.block ≠ B from fun ad e => by have := hO ad e; have := HRB.out; have := HB.out.size; omega)
      have HN := Lib.hid hN
      clear hb1 hN hO x0 x1 HO HB HA0 HD0 HB0
      go_wp2_with fail
      go_loopw [40] (fun i wr => ∃ j : Nat, i = .int .i64 j ∧ j ≤ l.length ∧ Hid (RnC wr X R B g c d { z with ps := (l.take j).foldl (openAt now) z.ps } vs) ∧ Hid (NatsAt wr B1 l) ∧ Hid (OnlyO [R, B] w wr)) (fun i _ => l.length - (intOf i).toNat)
      case atStart => exact ⟨0, rfl, Nat.zero_le _, HA1, HN, Lib.hid (OnlyO.of_below HB1.out)⟩
      case round =>
        obtain ⟨j, rfl, hj, HA2, HN2, HO2⟩ := hrel
        by_cases hlj : j < l.length
        · obtain ⟨x, hx⟩ : ∃ x, l[j]? = some x := ⟨_, List.getElem?_eq_getElem hlj⟩
          obtain ⟨ps, hps⟩ : ∃ ps, ps = (l.take j).foldl (openAt now) z.ps := ⟨_, rfl⟩
          have hpl : ps.length = z.ps.length := by rw [hps, openF_len]
          have HFT := Lib.hid (show (l.take (j + 1)).foldl (openAt now) z.ps = openAt now ps x by rw [fold_takeR hx, hps])
          rw [← hps] at HA2
          have hxl := HLP.out x (List.mem_of_getElem? hx)
          obtain ⟨p, hp⟩ : ∃ p, ps[x]? = some p := ⟨_, List.getElem?_eq_getElem (by rw [hpl]; exact hxl)⟩
          have HPP := Lib.hid hp
          have HPL := Lib.hid hpl
          obtain ⟨ad, rfl, hx0⟩ := HN2.out.at_ hx
          obtain ⟨Y, e, hv, _, _, hc⟩ := HA2.out.step hp
          obtain ⟨_, _, x2, _⟩ := HA2.out.cells
          have p0 : wr.cell? ⟨B, x * 9, none⟩ = some (.int .i64 p.tr.st) := hc 0 _ rfl
          have p1 := hc 1 _ rfl
          have p2 := hc 2 _ rfl
          have p3 := hc 3 _ rfl
          have p4 := hc 4 _ rfl
          have p5 := hc 5 _ rfl
          have hj0 : (0 : Int) ≤ (j : Int) := by omega
          have hjl : (j : Int) < (l.length : Int) := by omega
          have hx0' : (0 : Int) ≤ (x : Int) := by omega
          have hxl' : (x : Int) < (z.ps.length : Int) := by omega
          have hx2 : wr.cell? ⟨R, 2, none⟩ = some (.slice (some ⟨B, 0, none⟩) z.ps.length d) := by
            rw [x2]
            show some (Value.slice _ ps.length d) = _
            rw [hpl]
          clear hc hv hp hx hps x2 hpl
          go_upto_region 9 with fail
          obtain ⟨S, hS0, hSk, hSx, hSe⟩ := held_below wr
          have f2 := fun q : HeldW S => cell_later (hSx q) hx2
          have g0 := fun q : HeldW S => cell_later (hSx q) p0
          have g1 := fun q : HeldW S => cell_later (hSx q) p1
          have g2 := fun q : HeldW S => cell_later (hSx q) p2
          have g3 := fun q : HeldW S => cell_later (hSx q) p3
          have g4 := fun q : HeldW S => cell_later (hSx q) p4
          have g5 := fun q : HeldW S => cell_later (hSx q) p5
          have HS0 := Lib.hid hS0
          have HSK := Lib.hid hSk
          have HSE := Lib.hid hSe
          clear hS0 hSk hSe hSx p0 p1 p2 p3 p4 p5 hx2 hx0
          refine wp_region_phase S 17 1 (by kernel_rfl) (by kernel_rfl) rfl (by kernel_rfl) (by kernel_rfl) HS0.out ?_
          intro hne
          simp only [List.take_succ_cons, List.take_zero]
          repeat (go_big_quiet_step (first | exact rfl | (go_at_call 69; refine kept_of HSK.out (lopen_is p.tr now))))
          refine wpQuiet_nil ?_
          rintro w4 ⟨⟨_, hq4⟩, rfl⟩
          clear f2 g0 g1 g2 g3 g4 g5 hne
          have hb4 := HSE.out _ hq4
          have HA4 := Lib.hid (HA2.out.later hb4)
          have HN4 := Lib.hid (HN2.out.later hb4)
          have HO4 := Lib.hid (HO2.out.trans (OnlyO.of_below (O := [R, B]) hb4) New.refl)
          clear hq4 hb4 HSE HSK HS0 HA2 HN2 HO2
          obtain ⟨t', ht'⟩ : ∃ t', t' = openP p.tr now := ⟨_, rfl⟩
          have HT := Lib.hid (HA4.out.setTry HPP.out t')
          have HO5 := Lib.hid (HO4.out.trans (onlyO_set6 (W := w4) (B := B) (M := [R, B]) (o := x * 9) (t := t') (by simp)) New.refl)
          have HN5 := Lib.hid (HN4.out.same (V := set6 w4 B (x * 9) t') (fun _ ad e => set6_other (HOB.out ad e)))
          rw [← ht']
          have HTT := Lib.hid ht'
          obtain ⟨Y, e, hv, _, _, hc⟩ := HA4.out.step HPP.out
          have p0 : w4.cell? ⟨B, x * 9, none⟩ = some (.int .i64 p.tr.st) := hc 0 _ rfl
          have p1 := hc 1 _ rfl
          have p2 := hc 2 _ rfl
          have p3 := hc 3 _ rfl
          have p4 := hc 4 _ rfl
          have p5 := hc 5 _ rfl
          have zf := HA4.out.free
          clear ht' hv hc HA4 HO4 HN4
          refine one_ready (i := 17) (by kernel_rfl) (wpOp_step rfl (fun KK hKK => ?_))
          have HKK := Lib.hid hKK
          clear hKK
          go_simp
          refine HKK.out _ _ ?_
          clear HKK KK p0 p1 p2 p3 p4 p5 zf
          refine ⟨by kernel_rfl, ?_⟩
          go_wp2_with fail
          go_roundw
          case rel => exact ⟨j + 1, by go_num, by omega, Lib.hid (by rw [HFT.out, openAt]; have h := HT.out; rw [HTT.out] at h; rw [show ps.getD x noPl = p by rw [List.getD_eq_getElem?_getD, HPP.out]; rfl]; rw [HTT.out]; exact h), HN5, HO5⟩
          case measure => simp [intOf]; omega
        · obtain rfl : j = l.length := by omega
          have hlj' : ¬ (l.length : Int) < (l.length : Int) := by omega
          have hE := HA2.out
          rw [List.take_length, HLL.out, open_ready HL.out now] at hE
          have HE := Lib.hid (show RnC wr X R B g c d (advR z now) vs from hE)
          clear hE
          have HF := Lib.hid (show RcT w X R B g c d (advR z now) vs (.returned (.tuple #[])) wr from ⟨rfl, HE.out, HO2.out⟩)
          go_wp2_with fail
          exact bodyPost_ret (v := .tuple #[]) (by simp [results, Tryz.results35, go_sem]) rfl HF.out
end
end Go.Proofs.YtfjaibaidpbppaaGreatDoor
