/-
  LeaseHolds over the bundle. No conditions.
-/
import Derived.Test.YtbenehdikigbaaaLsD
namespace Go.Proofs.Ytbenehdikigbaaa
open Go.RowKit

set_option maxHeartbeats 8000000 in
set_option maxRecDepth 100000 in
theorem leaseholds_true (C : LeaseOk) {w : World} (n0 w0 l0 t0 b0 : Int) : Calls Try.prog 5 #[.int .i64 n0, .int .i64 w0, .int .i64 l0, .int .i64 t0, .int .i64 b0] w fun e w' => e = .returned (.bool true) ∧ Below w.heap.size w w' := by
  have HC := Lib.hid C
  clear C
  obtain ⟨N, hN, eN⟩ := left_is n0 1000 (by omega) (by omega)
  obtain ⟨K, hK, eK⟩ := left_is w0 100 (by omega) (by omega)
  obtain ⟨L, hL, eL⟩ := left_is l0 100 (by omega) (by omega)
  obtain ⟨T, hT, eT⟩ := left_is t0 100 (by omega) (by omega)
  have EN := Lib.hid eN
  have EK := Lib.hid eK
  have EL := Lib.hid eL
  have ET := Lib.hid eT
  clear eN eK eL eT
  go_enter Try.func5, Try.ntmps5
  go_upto_region 2 with fail
  have en := EN.out
  have ek := EK.out
  have el := EL.out
  have et := ET.out
  simp only [Int.cast_ofNat_Int] at en ek el et
  rw [en, ek, el, et]
  clear en ek el et EN EK EL ET
  obtain ⟨M, hM⟩ : ∃ M, M = T + 1 := ⟨_, rfl⟩
  have em : wrap64 (1 + (T : Int)) = (M : Int) := by unfold wrap64; omega
  have uM : IntKind.u64.wrap (M : Int) = (M : Int) := by
    show (M : Int) % (2 ^ 64) = (M : Int)
    exact Int.emod_eq_of_lt (by omega) (by omega)
  obtain ⟨B, hB, eB⟩ := left_is b0 M (by omega) (by omega)
  have hM1 : 1 ≤ M := by omega
  have hM2 : M ≤ 100 := by omega
  have hM0 : ¬ (M : Int) = 0 := by omega
  rw [em]
  clear em hM hT
  generalize IntKind.u64.wrap n0 = u1
  generalize IntKind.u64.wrap w0 = u2
  generalize IntKind.u64.wrap l0 = u3
  generalize IntKind.u64.wrap t0 = u4
  go_upto_region 3 with fail
  rw [eB]
  clear eB uM hM0
  generalize IntKind.u64.wrap b0 = u5
  obtain ⟨τ, hτ⟩ : ∃ τ : TrP, τ = ⟨2, 0, 0, K, L, (N : Int) + M⟩ := ⟨_, rfl⟩
  obtain ⟨β, hβ⟩ : ∃ β : TrP, β = ⟨2, 0, 0, K, L, (N : Int) + B + M⟩ := ⟨_, rfl⟩
  have hsm : SmallT τ := by rw [hτ]; constructor <;> unfold smI <;> simp only [] <;> omega
  have HOP := Lib.hid (fun W : World => show Calls Try.prog 12 #[.agg #[.int .i64 0, .int .i64 0, .int .i64 0, .int .i64 0, .int .i64 0, .int .i64 0], .int .i64 (N : Int)] W (fun e w' => e = .returned (tryV ⟨1, N, 0, 0, 0, 0⟩) ∧ Below W.heap.size W w') from HC.out.open_ noTr N (tryL_small (by decide)) (by unfold smI; omega))
  have HTK := Lib.hid (fun W : World => show Calls Try.prog 13 #[.agg #[.int .i64 1, .int .i64 (N : Int), .int .i64 0, .int .i64 0, .int .i64 0, .int .i64 0], .int .i64 (N : Int), .int .i64 (K : Int), .int .i64 (L : Int), .int .i64 (M : Int)] W (fun e w' => e = .returned (.tuple #[tryV τ, .int .i64 0]) ∧ Below W.heap.size W w') from by
    have h := HC.out.take (w := W) ⟨1, N, 0, 0, 0, 0⟩ N K L M (by constructor <;> unfold smI <;> simp only [] <;> omega) (by unfold smI; omega) (by unfold smI; omega)
    have e : takeP ⟨1, N, 0, 0, 0, 0⟩ N K L M = (τ, 0) := by
      unfold takeP
      rw [if_neg (by simp), hτ]
    rw [e] at h
    exact h)
  have HBE := Lib.hid (fun W : World => show Calls Try.prog 14 #[tryV τ, .int .i64 ((N : Int) + B), .int .i64 (M : Int)] W (fun e w' => e = .returned (tryV β) ∧ Below W.heap.size W w') from by
    have h := HC.out.beat (w := W) τ ((N : Int) + B) M hsm (by unfold smI; omega) (by unfold smI; omega)
    have e : beatP τ ((N : Int) + B) M = β := by
      unfold beatP
      rw [if_pos (by rw [hτ]), hτ, hβ]
    rw [e] at h
    exact h)
  have HHO := Lib.hid (fun (W : World) (t : TrP) (a k l : Int) (r : Bool) (h : holdsP t a k l = r) => show Calls Try.prog 11 #[tryV t, .int .i64 a, .int .i64 k, .int .i64 l] W (fun e w' => e = .returned (.bool r) ∧ Below W.heap.size W w') from by rw [← h]; exact HC.out.holds (w := W) t a k l)
  obtain ⟨F, hF⟩ : ∃ F : Int → TrP, F = fun c => settleP τ c 0 := ⟨_, rfl⟩
  have HST := Lib.hid (fun (W : World) (c : Int) (u : TrP) (hc : smI c) (h : F c = u) => show Calls Try.prog 10 #[tryV τ, .int .i64 c, .int .i64 0] W (fun e w' => e = .returned (tryV u) ∧ Below W.heap.size W w') from by rw [← h, hF]; exact HC.out.settle τ c 0 hsm hc (by unfold smI; omega))
  have p1 : holdsP τ ((N : Int) + M - 1) K L = true := by rw [hτ]; simp [holdsP]; try omega
  have p2 : holdsP τ ((N : Int) + M) K L = false := by rw [hτ]; simp [holdsP]; try omega
  have p3 : holdsP β ((N : Int) + B + M - 1) K L = true := by rw [hβ]; simp [holdsP]; try omega
  have p4 : holdsP τ (N : Int) ((K : Int) + 1) L = false := by
    rw [hτ]
    unfold holdsP
    rw [show ((K : Int) == (K : Int) + 1) = false from beq_eq_false_iff_ne.2 (by omega)]
    simp
  have p5 : holdsP τ (N : Int) K ((L : Int) + 1) = false := by
    rw [hτ]
    unfold holdsP
    rw [show ((L : Int) == (L : Int) + 1) = false from beq_eq_false_iff_ne.2 (by omega)]
    simp
  have p6 : F ((N : Int) + M - 1) = τ := by
    rw [hF, hτ]
    show settleP _ _ _ = _
    unfold settleP
    rw [if_neg (by simp only []; omega)]
  have p7 : F ((N : Int) + M) = ⟨4, 0, 1, 0, 0, 0⟩ := by
    rw [hF, hτ]
    show settleP _ _ _ = _
    unfold settleP missP
    rw [if_pos ⟨rfl, Int.le_refl _⟩]
    simp
  have e1 : sameT τ τ = true := sameT_self τ
  have d1 : ∀ W : World, (Instr.field 23 (.agg #[.int .i64 4, .int .i64 0, .int .i64 1, .int .i64 0, .int .i64 0, .int .i64 0]) 0).run Try.prog W = .ok (.int .i64 4) W := fun _ => by kernel_rfl
  have P := Lib.hid (And.intro p1 (And.intro p2 (And.intro p3 (And.intro p4 (And.intro p5 (And.intro p6 (And.intro p7 e1)))))))
  clear p1 p2 p3 p4 p5 p6 p7 e1 hτ hβ hF hsm
  go_wp2_with fail
  refine (HOP.out _).mono ?_
  rintro e w1 ⟨rfl, hb1⟩
  have HB1 := Lib.hid hb1
  clear hb1 HOP
  go_wp2_with fail
  refine (HTK.out _).mono ?_
  rintro e w2 ⟨rfl, hb2⟩
  have MT := Lib.hid (made_at w2 (.cells (tryA τ) 23))
  have HB2 := Lib.hid ((below_step HB1.out hb2).alloc (below_step HB1.out hb2).size (.cells (tryA τ) 23))
  clear hb2 HTK HB1
  go_upto_region 4 with fail
  generalize hW2 : (w2.alloc (.cells #[.int .i64 τ.st, .int .i64 τ.sn, .int .i64 τ.ms, .int .i64 τ.wk, .int .i64 τ.ls, .int .i64 τ.un] 23)) = W2 at *
  clear hW2
  generalize hg2 : w2.heap.size = g at *
  clear hg2
  go_wp2_with fail
  refine (lsawake_true HC.out _).mono ?_
  rintro e w3 ⟨rfl, hb3⟩
  have MT := Lib.hid (later_at hb3 MT.out)
  have HB := Lib.hid (below_step HB2.out hb3)
  clear hb3 HB2 HC
  obtain ⟨x0, x1, x2, x3, x4, x5⟩ := tr_at MT.out
  go_wp2_with fail
  refine (HBE.out _).mono ?_
  rintro e w4 ⟨rfl, hb4⟩
  have hal := hb4.alloc hb4.size (.cells (tryA β) 23)
  have MT := Lib.hid (show (w4.alloc (.cells #[.int .i64 β.st, .int .i64 β.sn, .int .i64 β.ms, .int .i64 β.wk, .int .i64 β.ls, .int .i64 β.un] 23)).heap[g]? = some (.cells (tryA τ) 23 (0, 0)) from later_at hal MT.out)
  have MB := Lib.hid (show (w4.alloc (.cells #[.int .i64 β.st, .int .i64 β.sn, .int .i64 β.ms, .int .i64 β.wk, .int .i64 β.ls, .int .i64 β.un] 23)).heap[w4.heap.size]? = some (.cells (tryA β) 23 (0, 0)) from made_at w4 _)
  have HB := Lib.hid (show Below w.heap.size w (w4.alloc (.cells #[.int .i64 β.st, .int .i64 β.sn, .int .i64 β.ms, .int .i64 β.wk, .int .i64 β.ls, .int .i64 β.un] 23)) from below_step HB.out hal)
  clear hb4 hal x0 x1 x2 x3 x4 x5 HBE
  go_wp2_with fail
  dsimp only [List.append]
  generalize hW4 : (w4.alloc (.cells #[.int .i64 β.st, .int .i64 β.sn, .int .i64 β.ms, .int .i64 β.wk, .int .i64 β.ls, .int .i64 β.un] 23)) = W4 at *
  clear hW4
  generalize hg4 : w4.heap.size = g4 at *
  clear hg4
  have HS0 := Lib.hid (show TrS w [(g, τ), (g4, β)] W4.drew from ⟨fun u hu => by
    simp only [List.mem_cons, List.not_mem_nil, or_false] at hu
    rcases hu with rfl | rfl
    · exact MT.out
    · exact MB.out, HB.out.drew⟩)
  obtain ⟨S, hS, hSk, hSe, hA, hH⟩ : ∃ S : World → Prop, S W4.drew ∧ (∀ v v', S v → Below v.heap.size v v' → S v') ∧ (∀ v, S v → TrS w [(g, τ), (g4, β)] v) ∧
      (∀ z : HeldW S, z.w.cell? ⟨g, 0, none⟩ = some (.int .i64 τ.st) ∧ z.w.cell? ⟨g, 1, none⟩ = some (.int .i64 τ.sn) ∧ z.w.cell? ⟨g, 2, none⟩ = some (.int .i64 τ.ms) ∧ z.w.cell? ⟨g, 3, none⟩ = some (.int .i64 τ.wk) ∧ z.w.cell? ⟨g, 4, none⟩ = some (.int .i64 τ.ls) ∧ z.w.cell? ⟨g, 5, none⟩ = some (.int .i64 τ.un)) ∧
      (∀ z : HeldW S, z.w.cell? ⟨g4, 0, none⟩ = some (.int .i64 β.st) ∧ z.w.cell? ⟨g4, 1, none⟩ = some (.int .i64 β.sn) ∧ z.w.cell? ⟨g4, 2, none⟩ = some (.int .i64 β.ms) ∧ z.w.cell? ⟨g4, 3, none⟩ = some (.int .i64 β.wk) ∧ z.w.cell? ⟨g4, 4, none⟩ = some (.int .i64 β.ls) ∧ z.w.cell? ⟨g4, 5, none⟩ = some (.int .i64 β.un)) :=
    ⟨_, HS0.out, TrS.keep, fun v h => h, fun x => x.ok.cells 0 rfl, fun x => x.ok.cells 1 rfl⟩
  have HS := Lib.hid hS
  have HSK := Lib.hid hSk
  have HSE := Lib.hid hSe
  clear hS hSk hSe HS0 MT MB HB
  have a0 := fun z => (hA z).1
  have a1 := fun z => (hA z).2.1
  have a2 := fun z => (hA z).2.2.1
  have a3 := fun z => (hA z).2.2.2.1
  have a4 := fun z => (hA z).2.2.2.2.1
  have a5 := fun z => (hA z).2.2.2.2.2
  have h0 := fun z => (hH z).1
  have h1 := fun z => (hH z).2.1
  have h2 := fun z => (hH z).2.2.1
  have h3 := fun z => (hH z).2.2.2.1
  have h4 := fun z => (hH z).2.2.2.2.1
  have h5 := fun z => (hH z).2.2.2.2.2
  clear hA hH
  obtain ⟨p1, p2, p3, p4, p5, p6, p7, e1⟩ := P.out
  have HSC := Lib.hid (show smI ((N : Int) + M - 1) ∧ smI ((N : Int) + M) from by unfold smI; omega)
  refine wp_region_kept S (by kernel_rfl) (by kernel_rfl) HS.out ?_
  intro hne
  repeat (go_big_quiet_step (first | exact rfl | (go_at_call 10; refine kept_of HSK.out (HST.out _ _ _ (by first | exact HSC.out.1 | exact HSC.out.2) (by assumption))) | (go_at_call 11; refine kept_of HSK.out (HHO.out _ _ _ _ _ _ (by assumption)))))
  refine wpQuiet_nil ?_
  rintro w9 ⟨⟨_, hq9⟩, rfl⟩
  clear a0 a1 a2 a3 a4 a5 h0 h1 h2 h3 h4 h5 hne
  have HB9 := Lib.hid (HSE.out _ hq9).2
  clear hq9
  go_wp2_with fail
  go_ret
  exact ⟨by first | rfl | simp, HB9.out⟩
end Go.Proofs.Ytbenehdikigbaaa
