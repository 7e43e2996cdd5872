/-
  The document's Right of votes. No conditions but how the list lies.
-/
import Derived.Test.YthmjeibanofliaaDoorGtW
import Derived.Test.YthmjeibanofliaaDoorKept
import Derived.Deep.QuietTactic
import Derived.BigQuiet
namespace Go.Proofs.YthmjeibanofliaaDoor
open Go.RowKit

section
variable {w : World} {A : Option Addr} {c : Nat} {l : List Int}
set_option maxHeartbeats 4000000 in
set_option maxRecDepth 100000 in
theorem refright12_is (ha : IntsC w A c l) (hn : l.length ≤ 64) :
    Calls Tryd.prog 9 #[.slice A l.length c] w fun e w' => e = .returned (.bool (rightV l)) ∧ Below w.heap.size w w' := by
  have HA := Lib.hid ha
  clear ha
  obtain ⟨r, hr⟩ : ∃ r, r = rightV l := ⟨_, rfl⟩
  rw [← hr]
  have HR := Lib.hid hr
  clear hr
  go_enter Tryd.func9, Tryd.ntmps9
  go_wp2_with fail
  go_loopw [3] (fun i wr => ∃ k : Nat, i = .int .i64 k ∧ k ≤ l.length ∧ Hid (RisL (l.take k)) ∧ Hid (Below w.heap.size w wr)) (fun i _ => l.length - (intOf i).toNat)
  case atStart => exact ⟨0, rfl, Nat.zero_le _, Lib.hid (by simpa using RisL.nil), Lib.hid (Below.refl _ _)⟩
  case round =>
    obtain ⟨k, rfl, hk, HF, HB⟩ := hrel
    by_cases hlt : k < l.length
    · obtain ⟨ad, x, rfl, hx, h0⟩ := (HA.out.later HB.out).get hlt
      have hc1 := HA.out.cap
      have hkl : (k : Int) < (l.length : Int) := by omega
      have HX := Lib.hid hx
      clear hx
      by_cases hx0 : x < 0
      · have HE := Lib.hid (show r = false by
          rw [HR.out]
          exact rightV_no fun h => by have := (h.2 x (List.mem_of_getElem? HX.out)).1; omega)
        obtain ⟨S, hS0, hSk, f0, hSe⟩ : ∃ S : World → Prop, S wr.drew ∧ (∀ v v', S v → Below v.heap.size v v' → S v') ∧ (∀ x' : HeldW S, x'.w.cell? (ad.add k) = some (.int .i64 x)) ∧ (∀ v, S v → Below wr.heap.size wr v) :=
          ⟨HoldS wr [((ad.add k), .int .i64 x)] (fun _ => True), ⟨cc h0 cn, True.intro, (Below.refl _ _).drew⟩, HoldS.keep keepTrue, fun x => x.at_ 0 rfl, fun v h => h.2.2⟩
        have HS0 := Lib.hid hS0
        have HSE := Lib.hid hSe
        clear hS0 hSk hSe h0
        go_wp2_with fail
        refine wp_region_kept S (by kernel_rfl) (by kernel_rfl) HS0.out ?_
        intro hne
        repeat (go_big_quiet_step (first | exact rfl | fail))
        refine wpQuiet_nil ?_
        rintro w5 ⟨⟨_, hq5⟩, rfl⟩
        have HB5 := Lib.hid (below_step HB.out (HSE.out _ hq5))
        clear hq5 HS0 HSE f0 hne
        go_wp2_with fail
        go_ret
        exact ⟨by rw [HE.out]; rfl, HB5.out⟩
      have d0 : decide (x < 0) = false := decide_eq_false hx0
      by_cases hx1 : 11 < x
      · have HE := Lib.hid (show r = false by
          rw [HR.out]
          exact rightV_no fun h => by have := (h.2 x (List.mem_of_getElem? HX.out)).2; omega)
        obtain ⟨S, hS0, hSk, f0, hSe⟩ : ∃ S : World → Prop, S wr.drew ∧ (∀ v v', S v → Below v.heap.size v v' → S v') ∧ (∀ x' : HeldW S, x'.w.cell? (ad.add k) = some (.int .i64 x)) ∧ (∀ v, S v → Below wr.heap.size wr v) :=
          ⟨HoldS wr [((ad.add k), .int .i64 x)] (fun _ => True), ⟨cc h0 cn, True.intro, (Below.refl _ _).drew⟩, HoldS.keep keepTrue, fun x => x.at_ 0 rfl, fun v h => h.2.2⟩
        have HS0 := Lib.hid hS0
        have HSE := Lib.hid hSe
        clear hS0 hSk hSe h0
        go_wp2_with fail
        refine wp_region_kept S (by kernel_rfl) (by kernel_rfl) HS0.out ?_
        intro hne
        repeat (go_big_quiet_step (first | exact rfl | fail))
        refine wpQuiet_nil ?_
        rintro w5 ⟨⟨_, hq5⟩, rfl⟩
        have HB5 := Lib.hid (below_step HB.out (HSE.out _ hq5))
        clear hq5 HS0 HSE f0 hne
        go_wp2_with fail
        go_ret
        exact ⟨by rw [HE.out]; rfl, HB5.out⟩
      have d1 : decide (11 < x) = false := decide_eq_false hx1
      by_cases hk0 : k = 0
      · have HT := Lib.hid (HF.out.take HX.out (by omega) (by omega) (fun j y h => by omega))
        have d2 : decide (0 < k) = false := decide_eq_false (by omega)
        clear hk0
        obtain ⟨S, hS0, hSk, f0, hSe⟩ : ∃ S : World → Prop, S wr.drew ∧ (∀ v v', S v → Below v.heap.size v v' → S v') ∧ (∀ x' : HeldW S, x'.w.cell? (ad.add k) = some (.int .i64 x)) ∧ (∀ v, S v → Below wr.heap.size wr v) :=
          ⟨HoldS wr [((ad.add k), .int .i64 x)] (fun _ => True), ⟨cc h0 cn, True.intro, (Below.refl _ _).drew⟩, HoldS.keep keepTrue, fun x => x.at_ 0 rfl, fun v h => h.2.2⟩
        have HS0 := Lib.hid hS0
        have HSE := Lib.hid hSe
        clear hS0 hSk hSe h0
        go_wp2_with fail
        refine wp_region_kept S (by kernel_rfl) (by kernel_rfl) HS0.out ?_
        intro hne
        repeat (go_big_quiet_step (first | exact rfl | fail))
        refine wpQuiet_nil ?_
        rintro w5 ⟨⟨_, hq5⟩, rfl⟩
        have HB5 := Lib.hid (below_step HB.out (HSE.out _ hq5))
        clear hq5 HS0 HSE f0 hne
        go_wp2_with fail
        go_roundw
        case rel => exact ⟨k + 1, by go_num, by omega, HT, HB5⟩
        case measure => simp [intOf]; omega
      · obtain ⟨j, hjk⟩ : ∃ j, k = j + 1 := ⟨k - 1, by omega⟩
        obtain ⟨bd, y, e, hy, h1⟩ := (HA.out.later HB.out).get (show j < l.length by omega)
        obtain rfl := Option.some.inj e
        have HY := Lib.hid hy
        have hj : (k : Int) - 1 = (j : Int) := by omega
        have hjl : (j : Int) < (l.length : Int) := by omega
        have d2 : decide (0 < k) = true := decide_eq_true (by omega)
        have HX2 := Lib.hid (show l[j + 1]? = some x by rw [← hjk]; exact HX.out)
        have HJ := Lib.hid hjk
        clear hy e hk0 hjk
        by_cases hyx : x ≤ y
        · have HE := Lib.hid (show r = false by
            rw [HR.out]
            exact rightV_no (notRis HY.out HX2.out (by omega)))
          obtain ⟨S, hS0, hSk, f0, f1, hSe⟩ : ∃ S : World → Prop, S wr.drew ∧ (∀ v v', S v → Below v.heap.size v v' → S v') ∧ (∀ x' : HeldW S, x'.w.cell? (ad.add k) = some (.int .i64 x)) ∧ (∀ x' : HeldW S, x'.w.cell? (ad.add j) = some (.int .i64 y)) ∧ (∀ v, S v → Below wr.heap.size wr v) :=
            ⟨HoldS wr [((ad.add k), .int .i64 x), ((ad.add j), .int .i64 y)] (fun _ => True), ⟨cc h0 (cc h1 cn), True.intro, (Below.refl _ _).drew⟩, HoldS.keep keepTrue, fun x => x.at_ 0 rfl, fun x => x.at_ 1 rfl, fun v h => h.2.2⟩
          have HS0 := Lib.hid hS0
          have HSE := Lib.hid hSe
          clear hS0 hSk hSe h0 h1
          go_wp2_with fail
          refine wp_region_kept S (by kernel_rfl) (by kernel_rfl) HS0.out ?_
          intro hne
          repeat (go_big_quiet_step (first | exact rfl | fail))
          refine wpQuiet_nil ?_
          rintro w5 ⟨⟨_, hq5⟩, rfl⟩
          have HB5 := Lib.hid (below_step HB.out (HSE.out _ hq5))
          clear hq5 HS0 HSE f0 f1 hne
          go_wp2_with fail
          go_ret
          exact ⟨by rw [HE.out]; rfl, HB5.out⟩
        · have d3 : decide (x ≤ y) = false := decide_eq_false hyx
          have HT := Lib.hid (HF.out.take HX.out (by omega) (by omega) (fun i z h hz => by
            obtain rfl : j = i := by have := HJ.out; omega
            obtain rfl := Option.some.inj (HY.out.symm.trans hz)
            omega))
          obtain ⟨S, hS0, hSk, f0, f1, hSe⟩ : ∃ S : World → Prop, S wr.drew ∧ (∀ v v', S v → Below v.heap.size v v' → S v') ∧ (∀ x' : HeldW S, x'.w.cell? (ad.add k) = some (.int .i64 x)) ∧ (∀ x' : HeldW S, x'.w.cell? (ad.add j) = some (.int .i64 y)) ∧ (∀ v, S v → Below wr.heap.size wr v) :=
            ⟨HoldS wr [((ad.add k), .int .i64 x), ((ad.add j), .int .i64 y)] (fun _ => True), ⟨cc h0 (cc h1 cn), True.intro, (Below.refl _ _).drew⟩, HoldS.keep keepTrue, fun x => x.at_ 0 rfl, fun x => x.at_ 1 rfl, fun v h => h.2.2⟩
          have HS0 := Lib.hid hS0
          have HSE := Lib.hid hSe
          clear hS0 hSk hSe h0 h1
          go_wp2_with fail
          refine wp_region_kept S (by kernel_rfl) (by kernel_rfl) HS0.out ?_
          intro hne
          repeat (go_big_quiet_step (first | exact rfl | fail))
          refine wpQuiet_nil ?_
          rintro w5 ⟨⟨_, hq5⟩, rfl⟩
          have HB5 := Lib.hid (below_step HB.out (HSE.out _ hq5))
          clear hq5 HS0 HSE f0 f1 hne
          go_wp2_with fail
          go_roundw
          case rel => exact ⟨k + 1, by go_num, by omega, HT, HB5⟩
          case measure => simp [intOf]; omega
    · obtain rfl : k = l.length := by omega
      have hlk : ¬ (l.length : Int) < (l.length : Int) := by omega
      have HT := Lib.hid (show RisL l by have h := HF.out; rwa [List.take_length] at h)
      have HE := Lib.hid (show r = true by rw [HR.out]; exact rightV_iff.2 HT.out)
      have h12 : (l.length : Int) ≤ 12 := by have := HT.out.len; omega
      go_wp2_with fail
      go_ret
      exact ⟨by rw [HE.out]; first | rfl | simp [h12], HB.out⟩
end
end Go.Proofs.YthmjeibanofliaaDoor
