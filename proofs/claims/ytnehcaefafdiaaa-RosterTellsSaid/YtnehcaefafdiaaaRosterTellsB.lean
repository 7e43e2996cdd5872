/-
  The law RosterTells, walked where there is a roster. No conditions but how the arguments lie in memory.
-/
import Derived.Test.YtnehcaefafdiaaaRosterTellsA
import Derived.Test.YtnehcaefafdiaaaPhase
import Derived.Test.YtnehcaefafdiaaaRegion
import Derived.WalkKit
import Derived.Deep.DeepCutAuto
import Derived.OwnWalk
import Derived.Laws.OwnMore
import Derived.Laws.AppendOwnNone
namespace Go.Proofs.Ytnehcaefafdiaaa
open Go.RowKit

theorem faultV_all {n m : Nat} {lv st pt al : Nat → Int} (h : faultV n m lv st pt al = 0) : ∀ i, i < m → thereB (pt i) n = true := by
  obtain ⟨h1, h4, h12⟩ := faultV_ok h
  rw [faultV_tail h1 h4 h12] at h
  split at h
  · cases h
  split at h
  · cases h
  split at h
  · cases h
  split at h
  · cases h
  rename_i hno
  intro i hi
  have := anyN_false (p := fun i => !thereB (pt i) n) (by simpa using hno) hi
  simpa using this

/-- What is held of the roster and the arguments. -/
def TellS (w : World) (R : Nat) (A B : Option Addr) (n m : Nat) (lv st pt al au : Nat → Int) (l s : Int) (W : World) : Prop :=
  RosAt W R n m lv st pt al au ∧ ArgS w A B n m lv st pt al au l s W
section
variable {A B : Option Addr} {R n m c d : Nat} {lv st pt al au : Nat → Int} {l s : Int} {w : World}
theorem TellS.keep {v v' : World} (h : TellS w R A B n m lv st pt al au l s v) (hb : Below v.heap.size v v') : TellS w R A B n m lv st pt al au l s v' := ⟨h.1.later hb, h.2.keep hb⟩
theorem TellS.keep_ : ∀ v v', TellS w R A B n m lv st pt al au l s v → Below v.heap.size v v' → TellS w R A B n m lv st pt al au l s v' := fun _ _ h hb => h.keep hb
theorem TellS.drew {v : World} (h : TellS w R A B n m lv st pt al au l s v) : TellS w R A B n m lv st pt al au l s v.drew :=
  let ⟨a, b, c, d, e, f⟩ := h
  ⟨a, b, c, d, e, f.drew⟩
theorem TellS.alloc {v : World} (h : TellS w R A B n m lv st pt al au l s v) (o : Obj) : TellS w R A B n m lv st pt al au l s (v.alloc o) := ⟨h.1.alloc o, h.2.alloc o⟩

set_option maxHeartbeats 2000000 in
set_option maxRecDepth 100000 in
theorem tells_good (hl : LabsAt w A n lv st) (hp : PepsAt w B m pt al au) (ha : A = none → n = 0 ∧ c = 0) (hb : B = none → m = 0 ∧ d = 0) (hn : n ≤ 50) (hm : m ≤ 50) (hst : ∀ i, i < n → SetN (st i)) (hau : ∀ i, i < m → SetN (au i)) (hs : SetN s) (hf : faultV n m lv st pt al = 0) (who part : Int) :
    Calls Try.prog 3 #[.slice A n c, .slice B m d, .int .i64 who, .int .i64 part, .agg #[.int .i64 l, .int .u16 s]] w fun e w' => e = .returned (.bool true) ∧ Below w.heap.size w w' := by
  obtain ⟨g1, g4, g12⟩ := faultV_ok hf
  have HIN := Lib.hid (faultV_all hf)
  have HST := Lib.hid hst
  have HAU := Lib.hid hau
  have HS := Lib.hid hs
  have HF := Lib.hid hf
  clear hst hau hs hf
  obtain ⟨i0, hi0, hz0, hz1, hz2⟩ := info_parts info_lab
  obtain ⟨j0, hj0, hy0, hy1, hy2⟩ := info_parts info_pep
  have HA := Lib.hid (ArgS.first (l := l) (s := s) hl hp)
  have nA := Lib.hid ha
  have nB := Lib.hid hb
  have n50 : ¬ 50 < n := by omega
  have m50 : ¬ 50 < m := by omega
  clear hl hp ha hb
  go_enter Try.func3, Try.ntmps3
  go_wp2_with fail
  refine (awake_is _).mono ?_
  rintro e w1 ⟨rfl, hb1⟩
  have H1 := Lib.hid (HA.out.keep hb1)
  clear hb1 HA
  go_wp2_with (first
    | (at_builtin; refine wpList_append_opt _ rfl (.tmp 32) (.tmp 33) 22 rfl w1.heap.size 26 i0 _ 2 16 Try.underlying22 hi0 hz0 hz1 hz2 rfl (by omega) (.slice (some ⟨w1.heap.size, 0, none⟩) 0 0) 0 [] rfl (World.ownsRow_lit w1 #[] 0 (Nat.le_refl _) (by unfold maxLen; omega) rfl) A n c (labCells lv st n) rfl nA.out (labCells_len _ _ _) (H1.out.alloc _).1.opt (labCells_one _ _ _) (by unfold maxLen; omega) (by omega) (by simp) ?_; intro v2 w2 hown2 hg2; have H2 := Lib.hid (H1.out.keep (bel_app hg2)))
    | (at_builtin; refine wpList_append_opt _ rfl (.tmp 35) (.tmp 36) 23 rfl w2.heap.size 35 j0 _ 3 24 Try.underlying23 hj0 hy0 hy1 hy2 rfl (by omega) (.slice (some ⟨w2.heap.size, 0, none⟩) 0 0) 0 [] rfl (World.ownsRow_lit w2 #[] 0 (Nat.le_refl _) (by unfold maxLen; omega) rfl) B m d (pepCells pt al au m) rfl nB.out (pepCells_len _ _ _ _) (H2.out.alloc _).2.1.opt (pepCells_one _ _ _ _) (by unfold maxLen; omega) (by omega) (by simp) ?_; intro v3 w3 hown3 hg3))
  have ho2 : w3.ownsRow w1.heap.size 26 2 v2 n (labCells lv st n) := by simpa using own_later hown2 (bel_app hg3)
  have ho3 : w3.ownsRow w2.heap.size 35 3 v3 m (pepCells pt al au m) := by simpa using hown3
  have H3 := Lib.hid (H2.out.keep (bel_app hg3))
  obtain ⟨A2, c2, rfl, hc2, hl2⟩ := labs_of_own ho2
  obtain ⟨B3, d3, rfl, hd3, hp3⟩ := peps_of_own ho3
  clear ho2 ho3 hown2 hown3 hg2 hg3 H1 H2
  refine (new_yes hl2 hp3 hc2 (fun e => by subst e; have := hl2 g1; obtain ⟨_, e, _⟩ := this; cases e) (fun e => by subst e; rcases Nat.eq_zero_or_pos m with e0 | e0; exact e0; have := hp3 e0; obtain ⟨_, e, _⟩ := this; cases e) HF.out).mono ?_
  rintro e w4 ⟨⟨R, rfl, hr⟩, hb4⟩
  have HT := Lib.hid (show TellS w R A B n m lv st pt al au l s w4 from ⟨hr, H3.out.keep hb4⟩)
  clear hb4 H3 hl2 hp3 hr
  have hr := (refnew_is (c := c) (d := d) HT.out.2.1 HT.out.2.2.1)
  rw [HF.out] at hr
  have HR := Lib.hid hr
  clear hr
  go_wp2_with fail
  refine HR.out.mono ?_
  rintro e w5 ⟨rfl, hb5⟩
  have H5 := Lib.hid (HT.out.keep hb5)
  clear hb5 HT HR
  have n2 : (n != n) = false := by simp
  have m2 : (m != m) = false := by simp
  go_upto_region 10 with (first
    | (go_at_call 10; refine (parts_is H5.out.1).mono ?_; rintro e wm ⟨rfl, rfl⟩)
    | (go_at_call 11; refine (people_is H5.out.1).mono ?_; rintro e wm ⟨rfl, rfl⟩))
  go_cut [80] (fun t wx => t = .bool (thereB who m) ∧ wx = w5)
  case first =>
    go_wp2_with fail
    all_goals
      go_meet
      refine ⟨?_, rfl⟩
      congr 1
      simp [thereB]
      try omega
  case rest =>
  obtain ⟨rfl, rfl⟩ := hcut
  go_upto_if 80 with (fail)
  go_cut [14] (fun o wx => o = .int .i64 (partV m pt who) ∧ wx = wc)
  case first =>
    cases t0 : thereB who m
    · have e0 := Lib.hid (show partV m pt who = -1 by simp [partV, t0])
      go_wp2_with fail
      go_meet
      exact ⟨by rw [e0.out], rfl⟩
    · obtain ⟨i, hi, rfl⟩ := there_nat t0
      have e0 := Lib.hid (show partV m pt i = pt i by simp [partV, t0])
      obtain ⟨bd, rfl, c0, _, _⟩ := H5.out.2.2.1.at_ hi
      go_wp2_with fail
      go_meet
      exact ⟨by rw [e0.out], rfl⟩
  case rest =>
  obtain ⟨rfl, rfl⟩ := hcut
  go_wp2_with fail
  refine (label_is H5.out.1 part).mono ?_
  rintro e w6 ⟨rfl, hb6⟩
  have H6 := Lib.hid ((H5.out.keep hb6).alloc (.cells #[.int .i64 (labV n lv part), .int .u16 (labV n st part)] 26))
  have x0 : (w6.alloc (.cells #[.int .i64 (labV n lv part), .int .u16 (labV n st part)] 26)).cell? ⟨w6.heap.size, 0, none⟩ = some (.int .i64 (labV n lv part)) := by simp [go_sem]
  have x1 : (w6.alloc (.cells #[.int .i64 (labV n lv part), .int .u16 (labV n st part)] 26)).cell? ⟨w6.heap.size, 1, none⟩ = some (.int .u16 (labV n st part)) := by simp [go_sem]
  clear hb6 H5
  go_upto_region 13 with fail
  go_cut [17] (fun t wx => t = .bool (thereB part n) ∧ wx = w6.alloc (.cells #[.int .i64 (labV n lv part), .int .u16 (labV n st part)] 26))
  case first =>
    go_wp2_with fail
    all_goals
      go_meet
      refine ⟨?_, rfl⟩
      congr 1
      simp [thereB]
      try omega
  case rest =>
  obtain ⟨rfl, hwc⟩ := hcut
  rw [← hwc] at H6 x0 x1
  clear hwc
  cases t1 : thereB part n
  · skip
    have HK := Lib.hid (show (HoldS w [(⟨w.heap.size, 0, none⟩, .int .i64 l), (⟨w.heap.size, 1, none⟩, .int .u16 s)] (TellS w R A B n m lv st pt al au l s)) (wc).drew from ⟨(cc H6.out.2.2.2.1 (cc H6.out.2.2.2.2.1 cn)), H6.out.drew, H6.out.2.2.2.2.2.drew⟩)
    clear x0 x1 H6
    go_wp2_with fail
    refine wp_region_noPanic ?_
    dsimp only [List.append]
    refine wp_region_phase _ 56 9 (by kernel_rfl) (by kernel_rfl) rfl (by kernel_rfl) (by kernel_rfl) HK.out ?_
    intro hne
    simp only [List.take_succ_cons, List.take_zero]
    have f0 : ∀ x : HeldW (HoldS w [(⟨w.heap.size, 0, none⟩, .int .i64 l), (⟨w.heap.size, 1, none⟩, .int .u16 s)] (TellS w R A B n m lv st pt al au l s)), x.w.cell? ⟨w.heap.size, 0, none⟩ = some (.int .i64 l) := fun x => x.at_ 0 rfl
    have f1 : ∀ x : HeldW (HoldS w [(⟨w.heap.size, 0, none⟩, .int .i64 l), (⟨w.heap.size, 1, none⟩, .int .u16 s)] (TellS w R A B n m lv st pt al au l s)), x.w.cell? ⟨w.heap.size, 1, none⟩ = some (.int .u16 s) := fun x => x.at_ 1 rfl
    repeat (go_big_quiet_step (first | (go_at_call 13; rename_i xx; exact kept_same (part_is xx.ok.2.1.1 _)) | (go_at_call 14; rename_i xx; refine kept_of (HoldS.keep TellS.keep_) (sees_is xx.ok.2.1.1 _ _)) | (go_at_call 15; rename_i xx; refine kept_of (HoldS.keep TellS.keep_) (refsees_is xx.ok.2.1.2.1 xx.ok.2.1.2.2.1 HIN.out HST.out _ _)) | (go_at_call 16; rename_i xx; refine kept_of (HoldS.keep TellS.keep_) (may_is xx.ok.2.1.1 _ _ _)) | (go_at_call 17; rename_i xx; refine kept_of (HoldS.keep TellS.keep_) (refmay_is xx.ok.2.1.2.1 xx.ok.2.1.2.2.1 HIN.out HST.out HAU.out _ _ _ HS.out)) | (go_at_call 18; rename_i xx; refine kept_of (HoldS.keep TellS.keep_) (find_is xx.ok.2.1.1 _ _)) | (go_at_call 19; rename_i xx; refine kept_of (HoldS.keep TellS.keep_) (reffind_is xx.ok.2.1.2.1 (by omega) _ _))))
    refine wpQuiet_nil ?_
    rintro wq ⟨⟨_, hq⟩, rfl⟩
    obtain ⟨hcs, hHeld, hbq⟩ := hq
    clear f0 f1 hne hcs
    refine wpAny_of_held (S := (TellS w R A B n m lv st pt al au l s)) _ _ _ _ ?_
    refine take_yes 56 156 (v := ?_) rfl rfl (by kernel_rfl) (by kernel_rfl) (by kernel_rfl) noPanic_any (by rfl) hHeld ?_ ?_
    rotate_left
    · intro wx hSw; have g0 := hSw.2.2.2.1; have g1 := hSw.2.2.2.2.1; clear hSw; go_simp <;> with_reducible rfl
    simp only [Act.put, List.setIfInBounds_toArray, List.set_cons_zero, List.set_cons_succ]
    refine take_yes 57 157 (v := ?_) rfl rfl (by kernel_rfl) (by kernel_rfl) (by kernel_rfl) noPanic_any (by rfl) hHeld ?_ ?_
    rotate_left
    · intro wx hSw; have g0 := hSw.2.2.2.1; have g1 := hSw.2.2.2.2.1; clear hSw; go_simp <;> with_reducible rfl
    simp only [Act.put, List.setIfInBounds_toArray, List.set_cons_zero, List.set_cons_succ]
    refine take_yes 59 159 (v := ?_) rfl rfl (by kernel_rfl) (by kernel_rfl) (by kernel_rfl) noPanic_any (by rfl) hHeld ?_ ?_
    rotate_left
    · intro wx hSw; have g0 := hSw.2.2.2.1; have g1 := hSw.2.2.2.2.1; clear hSw; go_simp <;> with_reducible rfl
    simp only [Act.put, List.setIfInBounds_toArray, List.set_cons_zero, List.set_cons_succ]
    refine take_yes 60 160 (v := ?_) rfl rfl (by kernel_rfl) (by kernel_rfl) (by kernel_rfl) noPanic_any (by rfl) hHeld ?_ ?_
    rotate_left
    · intro wx hSw; have g0 := hSw.2.2.2.1; have g1 := hSw.2.2.2.2.1; clear hSw; go_simp <;> with_reducible rfl
    simp only [Act.put, List.setIfInBounds_toArray, List.set_cons_zero, List.set_cons_succ]
    refine wpAnyH_ready (rs := [58]) (by kernel_rfl) (by simp) ?_
    refine AllReadyH.cons rfl (fun K hK => ?_) AllReadyH.nil
    go_simp
    refine (below_is hHeld.1 l s).mono ?_
    rintro e w7 ⟨A7, c7, rfl, hi7, hb7⟩
    go_wp2_with fail
    refine hK.out _ _ (hHeld.keep hb7) (fun hHeldN => ?_)
    clear hK K hHeld hb7
    have hHeld := hHeldN
    clear hHeldN
    (try simp only [Act.put, List.setIfInBounds_toArray, List.set_cons_zero, List.set_cons_succ])
    refine wpAnyH_ready (rs := [61]) (by kernel_rfl) (by simp) ?_
    refine AllReadyH.cons rfl (fun K hK => ?_) AllReadyH.nil
    go_simp
    refine (refbelow_is hHeld.2.1 (by omega) HST.out l s HS.out).mono ?_
    rintro e w8 ⟨A8, c8, rfl, hi8, hb8⟩
    go_wp2_with fail
    refine hK.out _ _ (hHeld.keep hb8) (fun hHeldN => ?_)
    have hi7' := hi7.later hb8
    clear hi7
    clear hK K hHeld hb8
    have hHeld := hHeldN
    clear hHeldN
    (try simp only [Act.put, List.setIfInBounds_toArray, List.set_cons_zero, List.set_cons_succ])
    refine wpAnyH_ready (rs := [62]) (by kernel_rfl) (by simp) ?_
    refine AllReadyH.cons rfl (fun K hK => ?_) AllReadyH.nil
    go_simp
    refine (same_is hi7' hi8 (by have := belowL_len (fun i => leqB (lv i) (st i) l s) n; omega)).mono ?_
    rintro e w9 ⟨rfl, hb9⟩
    go_wp2_with fail
    refine hK.out _ _ (hHeld.keep hb9) (fun hHeldN => ?_)
    clear hK K hHeld hb9
    have hHeld := hHeldN
    clear hHeldN
    (try simp only [Act.put, List.setIfInBounds_toArray, List.set_cons_zero, List.set_cons_succ])
    refine take_yes 63 163 (v := ?_) rfl rfl (by kernel_rfl) (by kernel_rfl) (by kernel_rfl) noPanic_any (by rfl) hHeld ?_ ?_
    rotate_left
    · intro wx hSw; clear hSw; go_simp <;> with_reducible rfl
    simp only [Act.put, List.setIfInBounds_toArray, List.set_cons_zero, List.set_cons_succ]
    refine take_yes 64 10 (v := ?_) rfl rfl (by kernel_rfl) (by kernel_rfl) (by kernel_rfl) noPanic_any (by rfl) hHeld ?_ ?_
    rotate_left
    · intro wx hSw; clear hSw; go_simp <;> with_reducible rfl
    simp only [Act.put, List.setIfInBounds_toArray, List.set_cons_zero, List.set_cons_succ]
    refine wpAnyH_done (by kernel_rfl) ?_ _
    refine NoPanic.normal ?_
    go_wp2_with fail
    go_ret
    exact ⟨rfl, hHeld.2.2.2.2.2⟩
  · obtain ⟨j, hj, rfl⟩ := there_nat t1
    have hlv : labV n lv j = lv j := by simp [labV, t1]
    have hsv : labV n st j = st j := by simp [labV, t1]
    rw [hlv] at x0
    rw [hsv] at x1
    clear hlv hsv
    obtain ⟨ad, rfl, y0, y1⟩ := H6.out.2.1.at_ hj
    have sme : sameB (lv j) (st j) (lv j) (st j) = true := by simp [sameB]
    have HK := Lib.hid (show (HoldS w [(⟨w.heap.size, 0, none⟩, .int .i64 l), (⟨w.heap.size, 1, none⟩, .int .u16 s), (⟨w6.heap.size, 0, none⟩, .int .i64 (lv j)), (⟨w6.heap.size, 1, none⟩, .int .u16 (st j)), ((ad.add (j * 2)), .int .i64 (lv j)), (⟨(ad.add (j * 2)).block, (ad.add (j * 2)).off + 1, none⟩, .int .u16 (st j))] (TellS w R (some ad) B n m lv st pt al au l s)) (wc).drew from ⟨(cc H6.out.2.2.2.1 (cc H6.out.2.2.2.2.1 (cc x0 (cc x1 (cc y0 (cc y1 cn)))))), H6.out.drew, H6.out.2.2.2.2.2.drew⟩)
    clear x0 x1 y0 y1 H6
    go_wp2_with fail
    refine wp_region_noPanic ?_
    dsimp only [List.append]
    refine wp_region_phase _ 56 9 (by kernel_rfl) (by kernel_rfl) rfl (by kernel_rfl) (by kernel_rfl) HK.out ?_
    intro hne
    simp only [List.take_succ_cons, List.take_zero]
    have f0 : ∀ x : HeldW (HoldS w [(⟨w.heap.size, 0, none⟩, .int .i64 l), (⟨w.heap.size, 1, none⟩, .int .u16 s), (⟨w6.heap.size, 0, none⟩, .int .i64 (lv j)), (⟨w6.heap.size, 1, none⟩, .int .u16 (st j)), ((ad.add (j * 2)), .int .i64 (lv j)), (⟨(ad.add (j * 2)).block, (ad.add (j * 2)).off + 1, none⟩, .int .u16 (st j))] (TellS w R (some ad) B n m lv st pt al au l s)), x.w.cell? ⟨w.heap.size, 0, none⟩ = some (.int .i64 l) := fun x => x.at_ 0 rfl
    have f1 : ∀ x : HeldW (HoldS w [(⟨w.heap.size, 0, none⟩, .int .i64 l), (⟨w.heap.size, 1, none⟩, .int .u16 s), (⟨w6.heap.size, 0, none⟩, .int .i64 (lv j)), (⟨w6.heap.size, 1, none⟩, .int .u16 (st j)), ((ad.add (j * 2)), .int .i64 (lv j)), (⟨(ad.add (j * 2)).block, (ad.add (j * 2)).off + 1, none⟩, .int .u16 (st j))] (TellS w R (some ad) B n m lv st pt al au l s)), x.w.cell? ⟨w.heap.size, 1, none⟩ = some (.int .u16 s) := fun x => x.at_ 1 rfl
    have f2 : ∀ x : HeldW (HoldS w [(⟨w.heap.size, 0, none⟩, .int .i64 l), (⟨w.heap.size, 1, none⟩, .int .u16 s), (⟨w6.heap.size, 0, none⟩, .int .i64 (lv j)), (⟨w6.heap.size, 1, none⟩, .int .u16 (st j)), ((ad.add (j * 2)), .int .i64 (lv j)), (⟨(ad.add (j * 2)).block, (ad.add (j * 2)).off + 1, none⟩, .int .u16 (st j))] (TellS w R (some ad) B n m lv st pt al au l s)), x.w.cell? ⟨w6.heap.size, 0, none⟩ = some (.int .i64 (lv j)) := fun x => x.at_ 2 rfl
    have f3 : ∀ x : HeldW (HoldS w [(⟨w.heap.size, 0, none⟩, .int .i64 l), (⟨w.heap.size, 1, none⟩, .int .u16 s), (⟨w6.heap.size, 0, none⟩, .int .i64 (lv j)), (⟨w6.heap.size, 1, none⟩, .int .u16 (st j)), ((ad.add (j * 2)), .int .i64 (lv j)), (⟨(ad.add (j * 2)).block, (ad.add (j * 2)).off + 1, none⟩, .int .u16 (st j))] (TellS w R (some ad) B n m lv st pt al au l s)), x.w.cell? ⟨w6.heap.size, 1, none⟩ = some (.int .u16 (st j)) := fun x => x.at_ 3 rfl
    have f4 : ∀ x : HeldW (HoldS w [(⟨w.heap.size, 0, none⟩, .int .i64 l), (⟨w.heap.size, 1, none⟩, .int .u16 s), (⟨w6.heap.size, 0, none⟩, .int .i64 (lv j)), (⟨w6.heap.size, 1, none⟩, .int .u16 (st j)), ((ad.add (j * 2)), .int .i64 (lv j)), (⟨(ad.add (j * 2)).block, (ad.add (j * 2)).off + 1, none⟩, .int .u16 (st j))] (TellS w R (some ad) B n m lv st pt al au l s)), x.w.cell? (ad.add (j * 2)) = some (.int .i64 (lv j)) := fun x => x.at_ 4 rfl
    have f5 : ∀ x : HeldW (HoldS w [(⟨w.heap.size, 0, none⟩, .int .i64 l), (⟨w.heap.size, 1, none⟩, .int .u16 s), (⟨w6.heap.size, 0, none⟩, .int .i64 (lv j)), (⟨w6.heap.size, 1, none⟩, .int .u16 (st j)), ((ad.add (j * 2)), .int .i64 (lv j)), (⟨(ad.add (j * 2)).block, (ad.add (j * 2)).off + 1, none⟩, .int .u16 (st j))] (TellS w R (some ad) B n m lv st pt al au l s)), x.w.cell? ⟨(ad.add (j * 2)).block, (ad.add (j * 2)).off + 1, none⟩ = some (.int .u16 (st j)) := fun x => x.at_ 5 rfl
    repeat (go_big_quiet_step (first | (go_at_call 13; rename_i xx; exact kept_same (part_is xx.ok.2.1.1 _)) | (go_at_call 14; rename_i xx; refine kept_of (HoldS.keep TellS.keep_) (sees_is xx.ok.2.1.1 _ _)) | (go_at_call 15; rename_i xx; refine kept_of (HoldS.keep TellS.keep_) (refsees_is xx.ok.2.1.2.1 xx.ok.2.1.2.2.1 HIN.out HST.out _ _)) | (go_at_call 16; rename_i xx; refine kept_of (HoldS.keep TellS.keep_) (may_is xx.ok.2.1.1 _ _ _)) | (go_at_call 17; rename_i xx; refine kept_of (HoldS.keep TellS.keep_) (refmay_is xx.ok.2.1.2.1 xx.ok.2.1.2.2.1 HIN.out HST.out HAU.out _ _ _ HS.out)) | (go_at_call 18; rename_i xx; refine kept_of (HoldS.keep TellS.keep_) (find_is xx.ok.2.1.1 _ _)) | (go_at_call 19; rename_i xx; refine kept_of (HoldS.keep TellS.keep_) (reffind_is xx.ok.2.1.2.1 (by omega) _ _))))
    refine wpQuiet_nil ?_
    rintro wq ⟨⟨_, hq⟩, rfl⟩
    obtain ⟨hcs, hHeld, hbq⟩ := hq
    clear f0 f1 f2 f3 f4 f5 hne hcs
    refine wpAny_of_held (S := (TellS w R (some ad) B n m lv st pt al au l s)) _ _ _ _ ?_
    refine take_yes 56 156 (v := ?_) rfl rfl (by kernel_rfl) (by kernel_rfl) (by kernel_rfl) noPanic_any (by rfl) hHeld ?_ ?_
    rotate_left
    · intro wx hSw; have g0 := hSw.2.2.2.1; have g1 := hSw.2.2.2.2.1; clear hSw; go_simp <;> with_reducible rfl
    simp only [Act.put, List.setIfInBounds_toArray, List.set_cons_zero, List.set_cons_succ]
    refine take_yes 57 157 (v := ?_) rfl rfl (by kernel_rfl) (by kernel_rfl) (by kernel_rfl) noPanic_any (by rfl) hHeld ?_ ?_
    rotate_left
    · intro wx hSw; have g0 := hSw.2.2.2.1; have g1 := hSw.2.2.2.2.1; clear hSw; go_simp <;> with_reducible rfl
    simp only [Act.put, List.setIfInBounds_toArray, List.set_cons_zero, List.set_cons_succ]
    refine take_yes 59 159 (v := ?_) rfl rfl (by kernel_rfl) (by kernel_rfl) (by kernel_rfl) noPanic_any (by rfl) hHeld ?_ ?_
    rotate_left
    · intro wx hSw; have g0 := hSw.2.2.2.1; have g1 := hSw.2.2.2.2.1; clear hSw; go_simp <;> with_reducible rfl
    simp only [Act.put, List.setIfInBounds_toArray, List.set_cons_zero, List.set_cons_succ]
    refine take_yes 60 160 (v := ?_) rfl rfl (by kernel_rfl) (by kernel_rfl) (by kernel_rfl) noPanic_any (by rfl) hHeld ?_ ?_
    rotate_left
    · intro wx hSw; have g0 := hSw.2.2.2.1; have g1 := hSw.2.2.2.2.1; clear hSw; go_simp <;> with_reducible rfl
    simp only [Act.put, List.setIfInBounds_toArray, List.set_cons_zero, List.set_cons_succ]
    refine wpAnyH_ready (rs := [58]) (by kernel_rfl) (by simp) ?_
    refine AllReadyH.cons rfl (fun K hK => ?_) AllReadyH.nil
    go_simp
    refine (below_is hHeld.1 l s).mono ?_
    rintro e w7 ⟨A7, c7, rfl, hi7, hb7⟩
    go_wp2_with fail
    refine hK.out _ _ (hHeld.keep hb7) (fun hHeldN => ?_)
    clear hK K hHeld hb7
    have hHeld := hHeldN
    clear hHeldN
    (try simp only [Act.put, List.setIfInBounds_toArray, List.set_cons_zero, List.set_cons_succ])
    refine wpAnyH_ready (rs := [61]) (by kernel_rfl) (by simp) ?_
    refine AllReadyH.cons rfl (fun K hK => ?_) AllReadyH.nil
    go_simp
    refine (refbelow_is hHeld.2.1 (by omega) HST.out l s HS.out).mono ?_
    rintro e w8 ⟨A8, c8, rfl, hi8, hb8⟩
    go_wp2_with fail
    refine hK.out _ _ (hHeld.keep hb8) (fun hHeldN => ?_)
    have hi7' := hi7.later hb8
    clear hi7
    clear hK K hHeld hb8
    have hHeld := hHeldN
    clear hHeldN
    (try simp only [Act.put, List.setIfInBounds_toArray, List.set_cons_zero, List.set_cons_succ])
    refine wpAnyH_ready (rs := [62]) (by kernel_rfl) (by simp) ?_
    refine AllReadyH.cons rfl (fun K hK => ?_) AllReadyH.nil
    go_simp
    refine (same_is hi7' hi8 (by have := belowL_len (fun i => leqB (lv i) (st i) l s) n; omega)).mono ?_
    rintro e w9 ⟨rfl, hb9⟩
    go_wp2_with fail
    refine hK.out _ _ (hHeld.keep hb9) (fun hHeldN => ?_)
    clear hK K hHeld hb9
    have hHeld := hHeldN
    clear hHeldN
    (try simp only [Act.put, List.setIfInBounds_toArray, List.set_cons_zero, List.set_cons_succ])
    refine take_yes 63 163 (v := ?_) rfl rfl (by kernel_rfl) (by kernel_rfl) (by kernel_rfl) noPanic_any (by rfl) hHeld ?_ ?_
    rotate_left
    · intro wx hSw; clear hSw; go_simp <;> with_reducible rfl
    simp only [Act.put, List.setIfInBounds_toArray, List.set_cons_zero, List.set_cons_succ]
    refine take_yes 64 10 (v := ?_) rfl rfl (by kernel_rfl) (by kernel_rfl) (by kernel_rfl) noPanic_any (by rfl) hHeld ?_ ?_
    rotate_left
    · intro wx hSw; clear hSw; go_simp <;> with_reducible rfl
    simp only [Act.put, List.setIfInBounds_toArray, List.set_cons_zero, List.set_cons_succ]
    refine wpAnyH_done (by kernel_rfl) ?_ _
    refine NoPanic.normal ?_
    go_wp2_with fail
    go_ret
    exact ⟨rfl, hHeld.2.2.2.2.2⟩

end
end Go.Proofs.Ytnehcaefafdiaaa
