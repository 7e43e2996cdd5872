/-
  The program's Name, Number and Label. Conditions: lengths; what the library's variables hold.
-/
import Derived.Test.YtcfnmjhelhdobaaGreatDoorLexJ
import Derived.Test.YtcfnmjhelhdobaaGreatDoorLexU
import Derived.Test.YtcfnmjhelhdobaaGreatDoorPhaseC
namespace Go.Proofs.YtcfnmjhelhdobaaGreatDoor
open Go.RowKit Go.Shelf

/-- The greater one, kept whole in a walk. -/
def maxI (x y : Int) : Int := if y > x then y else x
@[go_sem ↓] theorem run_maxI {P : Program} (w : World) (ts : Array TypeId) (t : TypeId) (k k' : IntKind) (x y : Int) : (Builtin.max_ ts t #[.int k x, .int k' y]).run P w = .ok (.int k (maxI x y)) w := run_max_int2 (w := w) ts t k k' x y
theorem maxI_low {n lo : Int} : n < maxI lo 0 ↔ n < 0 ∨ n < lo := by
  unfold maxI
  split <;> omega

theorem ba_beq (s t : ByteArray) : (s.toList == t.toList) = decide (s = t) := by
  have e : ∀ x : ByteArray, x.toList = x.data.toList := fun x => Go.ByteArray.toList_eq x
  rw [Bool.eq_iff_iff]
  simp only [beq_iff_eq, decide_eq_true_eq, e]
  constructor
  · intro h
    exact ByteArray.ext (Array.toList_inj.1 h)
  · intro h
    rw [h]

set_option maxHeartbeats 1000000 in
set_option maxRecDepth 100000 in
theorem name_is (w : World) (t : ByteArray) (p : Int) : Calls Tryz.prog 52 #[wdV t p] w (OneOut w (if nameP t then some (.string t) else none) (.string ⟨#[]⟩) 15 p) := by
  have HIS := Lib.hid (fun A : World => isname_is t A)
  by_cases hnm : nameP t = true
  · have ht : t.size ≤ 8 := (of_decide_eq_true hnm).2.1
    have HO := Lib.hid (fun A : World => own_is A t p (by omega))
    rw [hnm] at HIS
    rw [if_pos hnm]
    clear hnm
    go_enter Tryz.func52, Tryz.ntmps52
    go_wp2_with fail
    refine (HIS.out _).mono ?_
    rintro e w1 ⟨rfl, rfl⟩
    go_wp2_with fail
    refine (HO.out _).mono ?_
    rintro e w2 ⟨rfl, hb⟩
    have HB := Lib.hid (below_step ((Below.refl w.heap.size w).alloc (Nat.le_refl _) (.cells #[.string t, .int .i64 p] 81)) hb)
    clear hb
    dsimp only [wdV]
    have hfd : ∀ W : World, (Instr.field 81 (.agg #[.string t, .int .i64 p]) 0).run Tryz.prog W = .ok (.string t) W := fun _ => by kernel_rfl
    go_wp2_with fail
    go_ret2
    exact ⟨HB.out, rfl⟩
  · have hnm := Bool.eq_false_iff.2 hnm
    have HF := Lib.hid (fun A : World => fault_is A p 15)
    rw [hnm] at HIS
    rw [hnm]
    clear hnm
    go_enter Tryz.func52, Tryz.ntmps52
    go_wp2_with fail
    refine (HIS.out _).mono ?_
    rintro e w1 ⟨rfl, rfl⟩
    go_wp2_with fail
    refine (HF.out _).mono ?_
    rintro e w2 ⟨F, rfl, hF, _, hb⟩
    have HB := Lib.hid (below_step ((Below.refl w.heap.size w).alloc (Nat.le_refl _) (.cells #[.string t, .int .i64 p] 81)) hb)
    have HFA := Lib.hid hF
    clear hb hF
    unfold fltV
    go_wp2_with fail
    go_ret2
    exact ⟨HB.out, F, rfl, HFA.out⟩

set_option maxHeartbeats 2000000 in
set_option maxRecDepth 100000 in
theorem number_is {w : World} (hV : VarsAt w) (t : ByteArray) (p lo hi : Int) (ht : t.size ≤ 1000000000) : Calls Tryz.prog 92 #[wdV t p, .int .i64 lo, .int .i64 hi] w (OneOut w ((numP t lo hi).map (Value.int .i64)) (.int .i64 0) 16 p) := by
  have HF := Lib.hid (fun A : World => fault_is A p 16)
  have hb0 := (Below.refl w.heap.size w).alloc (Nat.le_refl _) (.cells #[.string t, .int .i64 p] 81)
  have HB0 := Lib.hid hb0
  have HV0 := Lib.hid (hV.later hb0)
  have HM := Lib.hid (made_at w (.cells #[.string t, .int .i64 p] 81))
  have HVW := Lib.hid hV
  clear hb0 hV
  by_cases hlong : 9 < t.size
  · rw [numP_long hlong]
    have hl2 : (9 : Int) < t.size := by omega
    clear hlong
    go_enter Tryz.func92, Tryz.ntmps92
    go_wp2_with fail
    refine (HF.out _).mono ?_
    rintro e w2 ⟨F, rfl, hF, _, hb⟩
    have HB := Lib.hid (below_step HB0.out hb)
    have HFA := Lib.hid hF
    clear hb hF
    unfold fltV
    go_wp2_with fail
    go_ret2
    exact ⟨HB.out, F, rfl, HFA.out⟩
  · by_cases hat : ∃ n, Lib.atoiAll (bl t) = .ok n
    · obtain ⟨n, hn⟩ := hat
      obtain ⟨n0, n1⟩ := Lib.atoiAll_bounds hn
      have HA := Lib.hid (fun A : World => atoi_yes A t ht n hn)
      have HI := Lib.hid (fun (A : World) (hA : VarsAt A) => itoa_is hA n n0 n1)
      have hl2 : ¬ (9 : Int) < t.size := by omega
      have HN := Lib.hid hn
      have HL := Lib.hid hlong
      clear hn n0 n1 hlong
      go_enter Tryz.func92, Tryz.ntmps92
      go_wp2_with fail
      refine (HA.out _).mono ?_
      rintro e w2 ⟨rfl, hb⟩
      have HB := Lib.hid (below_step HB0.out hb)
      have HV2 := Lib.hid (HV0.out.later hb)
      have hm2 := later_at hb HM.out
      have x0 := cellH hm2 0
      have x1 := cellH hm2 1
      simp at x0 x1
      have HM2 := Lib.hid hm2
      clear hb hm2
      go_wp2_with fail
      by_cases hh : headT n = bl t
      · have hne2 : ((ofL (headT n)).toList == t.toList) = true := by
          have e : ofL (headT n) = t := by rw [hh, ofL_bl]
          rw [e]
          simp
        by_cases hlow : n < maxI lo 0
        · have HR := Lib.hid (numP_low hh (maxI_low.1 hlow) : numP t lo hi = none)
          clear hh
          have HK := Lib.hid (show HoldS w2 [(⟨w.heap.size, 0, none⟩, .string t)] VarsAt w2.drew from ⟨cc x0 cn, HV2.out.later (Below.refl _ _).drew, (Below.refl _ _).drew⟩)
          clear x0 x1
          refine wp_region_kept _ (by kernel_rfl) (by kernel_rfl) HK.out ?_
          intro hne
          have f0 : ∀ x : HeldW (HoldS w2 [(⟨w.heap.size, 0, none⟩, .string t)] VarsAt), x.w.cell? ⟨w.heap.size, 0, none⟩ = some (.string t) := fun x => x.at_ 0 rfl
          repeat (go_big_quiet_step (first | (go_at_call 73; rename_i xx; refine kept_of (HoldS.keep (fun v v' (h : VarsAt v) hb => h.later hb)) (HI.out _ xx.ok.2.1))))
          refine wpQuiet_nil ?_
          rintro wz ⟨⟨_, hq⟩, rfl⟩
          obtain ⟨_, _, hbz⟩ := hq
          have HBZ := Lib.hid (below_step HB.out hbz)
          have hm3 := later_at hbz HM2.out
          have z1 := cellH hm3 1
          simp at z1
          clear f0 hne hbz hm3
          go_wp2_with fail
          refine (HF.out _).mono ?_
          rintro e w3 ⟨F, rfl, hF, _, hb⟩
          have HB3 := Lib.hid (below_step HBZ.out hb)
          have HFA := Lib.hid hF
          clear hb hF
          unfold fltV
          go_wp2_with fail
          go_ret2
          exact ⟨HB3.out, by rw [HR.out]; exact ⟨F, rfl, HFA.out⟩⟩
        · have hlow2 : ¬ (n < 0 ∨ n < lo) := fun h => hlow (maxI_low.2 h)
          by_cases hhi : hi < n
          · have HR := Lib.hid (numP_high hh hhi : numP t lo hi = none)
            clear hh hlow2
            have HK := Lib.hid (show HoldS w2 [(⟨w.heap.size, 0, none⟩, .string t)] VarsAt w2.drew from ⟨cc x0 cn, HV2.out.later (Below.refl _ _).drew, (Below.refl _ _).drew⟩)
            clear x0 x1
            refine wp_region_kept _ (by kernel_rfl) (by kernel_rfl) HK.out ?_
            intro hne
            have f0 : ∀ x : HeldW (HoldS w2 [(⟨w.heap.size, 0, none⟩, .string t)] VarsAt), x.w.cell? ⟨w.heap.size, 0, none⟩ = some (.string t) := fun x => x.at_ 0 rfl
            repeat (go_big_quiet_step (first | (go_at_call 73; rename_i xx; refine kept_of (HoldS.keep (fun v v' (h : VarsAt v) hb => h.later hb)) (HI.out _ xx.ok.2.1))))
            refine wpQuiet_nil ?_
            rintro wz ⟨⟨_, hq⟩, rfl⟩
            obtain ⟨_, _, hbz⟩ := hq
            have HBZ := Lib.hid (below_step HB.out hbz)
            have hm3 := later_at hbz HM2.out
            have z1 := cellH hm3 1
            simp at z1
            clear f0 hne hbz hm3
            go_wp2_with fail
            refine (HF.out _).mono ?_
            rintro e w3 ⟨F, rfl, hF, _, hb⟩
            have HB3 := Lib.hid (below_step HBZ.out hb)
            have HFA := Lib.hid hF
            clear hb hF
            unfold fltV
            go_wp2_with fail
            go_ret2
            exact ⟨HB3.out, by rw [HR.out]; exact ⟨F, rfl, HFA.out⟩⟩
          · have HY := Lib.hid (numP_yes hh (by have := HL.out; omega) (by omega) (by omega) (by omega) : numP t lo hi = some n)
            clear hh hlow2
            have HK := Lib.hid (show HoldS w2 [(⟨w.heap.size, 0, none⟩, .string t)] VarsAt w2.drew from ⟨cc x0 cn, HV2.out.later (Below.refl _ _).drew, (Below.refl _ _).drew⟩)
            clear x0 x1
            refine wp_region_kept _ (by kernel_rfl) (by kernel_rfl) HK.out ?_
            intro hne
            have f0 : ∀ x : HeldW (HoldS w2 [(⟨w.heap.size, 0, none⟩, .string t)] VarsAt), x.w.cell? ⟨w.heap.size, 0, none⟩ = some (.string t) := fun x => x.at_ 0 rfl
            repeat (go_big_quiet_step (first | (go_at_call 73; rename_i xx; refine kept_of (HoldS.keep (fun v v' (h : VarsAt v) hb => h.later hb)) (HI.out _ xx.ok.2.1))))
            refine wpQuiet_nil ?_
            rintro wz ⟨⟨_, hq⟩, rfl⟩
            obtain ⟨_, _, hbz⟩ := hq
            have HBZ := Lib.hid (below_step HB.out hbz)
            have hm3 := later_at hbz HM2.out
            have z1 := cellH hm3 1
            simp at z1
            clear f0 hne hbz hm3
            go_wp2_with fail
            go_ret2
            exact ⟨HBZ.out, by rw [HY.out]; rfl⟩
      · have hne2 : ((ofL (headT n)).toList == t.toList) = false := by
          rw [ba_beq]
          exact decide_eq_false (fun e => hh (by rw [← e, bl_ofL]))
        have HR := Lib.hid (numP_other HN.out hh : numP t lo hi = none)
        clear hh
        have HK := Lib.hid (show HoldS w2 [(⟨w.heap.size, 0, none⟩, .string t)] VarsAt w2.drew from ⟨cc x0 cn, HV2.out.later (Below.refl _ _).drew, (Below.refl _ _).drew⟩)
        clear x0 x1
        refine wp_region_kept _ (by kernel_rfl) (by kernel_rfl) HK.out ?_
        intro hne
        have f0 : ∀ x : HeldW (HoldS w2 [(⟨w.heap.size, 0, none⟩, .string t)] VarsAt), x.w.cell? ⟨w.heap.size, 0, none⟩ = some (.string t) := fun x => x.at_ 0 rfl
        repeat (go_big_quiet_step (first | (go_at_call 73; rename_i xx; refine kept_of (HoldS.keep (fun v v' (h : VarsAt v) hb => h.later hb)) (HI.out _ xx.ok.2.1))))
        refine wpQuiet_nil ?_
        rintro wz ⟨⟨_, hq⟩, rfl⟩
        obtain ⟨_, _, hbz⟩ := hq
        have HBZ := Lib.hid (below_step HB.out hbz)
        have hm3 := later_at hbz HM2.out
        have z1 := cellH hm3 1
        simp at z1
        clear f0 hne hbz hm3
        go_wp2_with fail
        refine (HF.out _).mono ?_
        rintro e w3 ⟨F, rfl, hF, _, hb⟩
        have HB3 := Lib.hid (below_step HBZ.out hb)
        have HFA := Lib.hid hF
        clear hb hF
        unfold fltV
        go_wp2_with fail
        go_ret2
        exact ⟨HB3.out, by rw [HR.out]; exact ⟨F, rfl, HFA.out⟩⟩
    · have HA := Lib.hid (fun (A : World) (hA : VarsAt A) => atoi_no hA t ht (fun v h => hat ⟨v, h⟩))
      have hl2 : ¬ (9 : Int) < t.size := by omega
      rw [numP_none (fun v h => hat ⟨v, h⟩)]
      clear hat hlong
      go_enter Tryz.func92, Tryz.ntmps92
      go_wp2_with fail
      refine (HA.out _ HV0.out).mono ?_
      rintro e w2 ⟨v, tp, pp, rfl, hb⟩
      have HB := Lib.hid (below_step HB0.out hb)
      have HV2 := Lib.hid (HV0.out.later hb)
      have hm2 := later_at hb HM.out
      have x0 := cellH hm2 0
      have x1 := cellH hm2 1
      simp at x0 x1
      have HM2 := Lib.hid hm2
      clear hb hm2
      go_wp2_with fail
      have HK := Lib.hid (show HoldS w2 [(⟨w.heap.size, 0, none⟩, .string t)] VarsAt w2.drew from ⟨cc x0 cn, HV2.out.later (Below.refl _ _).drew, (Below.refl _ _).drew⟩)
      clear x0 x1
      refine wp_region_kept _ (by kernel_rfl) (by kernel_rfl) HK.out ?_
      intro hne
      have f0 : ∀ x : HeldW (HoldS w2 [(⟨w.heap.size, 0, none⟩, .string t)] VarsAt), x.w.cell? ⟨w.heap.size, 0, none⟩ = some (.string t) := fun x => x.at_ 0 rfl
      repeat (go_big_quiet_step (fail))
      refine wpQuiet_nil ?_
      rintro wz ⟨⟨_, hq⟩, rfl⟩
      obtain ⟨_, _, hbz⟩ := hq
      have HBZ := Lib.hid (below_step HB.out hbz)
      have hm3 := later_at hbz HM2.out
      have z1 := cellH hm3 1
      simp at z1
      clear f0 hne hbz hm3
      go_wp2_with fail
      refine (HF.out _).mono ?_
      rintro e w3 ⟨F, rfl, hF, _, hb⟩
      have HB3 := Lib.hid (below_step HBZ.out hb)
      have HFA := Lib.hid hF
      clear hb hF
      unfold fltV
      go_wp2_with fail
      go_ret2
      exact ⟨HB3.out, F, rfl, HFA.out⟩
end Go.Proofs.YtcfnmjhelhdobaaGreatDoor
