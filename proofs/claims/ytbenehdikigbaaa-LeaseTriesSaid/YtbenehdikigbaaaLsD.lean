/-
  LeaseTries over the bundle. No conditions.
-/
import Derived.Test.YtbenehdikigbaaaLsC
namespace Go.Proofs.Ytbenehdikigbaaa
open Go.RowKit

/-- A number, taken as one without a sign, and what is left of it. -/
theorem left_is (r : Int) (k : Nat) (hk : 0 < k) (hk2 : k ≤ 1000000) : ∃ q : Nat, q < k ∧ wrap64 ((IntKind.u64.wrap r).tmod (k : Int)) = (q : Int) := by
  have h0 : 0 ≤ IntKind.u64.wrap r := by
    show (0 : Int) ≤ r % (2 ^ 64)
    exact Int.emod_nonneg _ (by decide)
  have h1 : 0 ≤ (IntKind.u64.wrap r).tmod (k : Int) := Int.tmod_nonneg _ h0
  have h2 : (IntKind.u64.wrap r).tmod (k : Int) < (k : Int) := Int.tmod_lt_of_pos _ (by omega)
  refine ⟨((IntKind.u64.wrap r).tmod (k : Int)).toNat, by omega, ?_⟩
  unfold wrap64
  omega
set_option maxHeartbeats 8000000 in
set_option maxRecDepth 100000 in
theorem leasetries_true (C : LeaseOk) {w : World} (r0 n0 : Int) : Calls Try.prog 4 #[.int .i64 r0, .int .i64 n0] w fun e w' => e = .returned (.bool true) ∧ Below w.heap.size w w' := by
  have HC := Lib.hid C
  clear C
  obtain ⟨R, hR, eR⟩ := left_is r0 6 (by omega) (by omega)
  obtain ⟨N, hN, eN⟩ := left_is n0 1000 (by omega) (by omega)
  have ER := Lib.hid eR
  have EN := Lib.hid eN
  clear eR eN
  go_enter Try.func4, Try.ntmps4
  go_upto_region 2 with fail
  have er := ER.out
  have en := EN.out
  simp only [Int.cast_ofNat_Int] at er en
  rw [er, en]
  clear er en ER EN
  generalize IntKind.u64.wrap r0 = ur
  generalize IntKind.u64.wrap n0 = un
  have HOP := Lib.hid (fun W : World => show Calls Try.prog 12 #[.agg #[.int .i64 0, .int .i64 0, .int .i64 0, .int .i64 0, .int .i64 0, .int .i64 0], .int .i64 (N : Int)] W (fun e w' => e = .returned (tryV ⟨1, N, 0, 0, 0, 0⟩) ∧ Below W.heap.size W w') from HC.out.open_ noTr N (tryL_small (by decide)) (by unfold smI; omega))
  go_wp2_with fail
  refine (HOP.out _).mono ?_
  rintro e w1 ⟨rfl, hb1⟩
  have M1 := Lib.hid (made_at w1 (.cells (tryA ⟨1, N, 0, 0, 0, 0⟩) 23))
  have HB1 := Lib.hid (hb1.alloc hb1.size (.cells (tryA ⟨1, N, 0, 0, 0, 0⟩) 23))
  have HG := Lib.hid hb1.size
  clear hb1 HOP
  go_upto_region 3 with fail
  generalize hW1 : (w1.alloc (.cells #[.int .i64 1, .int .i64 (N : Int), .int .i64 0, .int .i64 0, .int .i64 0, .int .i64 0] 23)) = W1 at *
  clear hW1
  generalize hg1 : w1.heap.size = g at *
  clear hg1
  go_wp2_with fail
  go_loopw [22] (fun i wr => ∃ (k : Nat) (τ : TrP), i = .int .i64 k ∧ k ≤ R + 1 ∧ Hid (k ≤ R → ∃ s : Nat, s ≤ 1000 + 9 * k ∧ τ = ⟨1, s, k, 0, 0, 0⟩) ∧ Hid (k = R + 1 → τ = ⟨4, 0, k, 0, 0, 0⟩) ∧ Hid (wr.heap[g]? = some (.cells (tryA τ) 23 (0, 0))) ∧ Hid (Below w.heap.size w wr)) (fun i _ => R + 1 - (intOf i).toNat)
  case atStart => exact ⟨0, _, rfl, Nat.zero_le _, Lib.hid (fun _ => ⟨N, by omega, rfl⟩), Lib.hid (fun h => by omega), M1, HB1⟩
  case round =>
    obtain ⟨k, τ, rfl, hk, HT, HE, HM, HB⟩ := hrel
    by_cases hlt : k ≤ R
    · obtain ⟨s, hs, rfl⟩ := HT.out hlt
      clear HT HE
      have hkl : (k : Int) < (R : Int) + 1 := by omega
      have HTK := Lib.hid (fun W : World => show Calls Try.prog 13 #[.agg #[.int .i64 1, .int .i64 (s : Int), .int .i64 (k : Int), .int .i64 0, .int .i64 0, .int .i64 0], .int .i64 (s : Int), .int .i64 1, .int .i64 (k : Int), .int .i64 3] W (fun e w' => e = .returned (.tuple #[tryV ⟨2, 0, k, 1, k, (s : Int) + 3⟩, .int .i64 0]) ∧ Below W.heap.size W w') from by
        have h := HC.out.take (w := W) ⟨1, s, k, 0, 0, 0⟩ s 1 k 3 (by constructor <;> unfold smI <;> simp only [] <;> omega) (by unfold smI; omega) (by unfold smI; omega)
        have e : takeP ⟨1, s, k, 0, 0, 0⟩ s 1 k 3 = (⟨2, 0, k, 1, k, (s : Int) + 3⟩, 0) := by
          unfold takeP
          rw [if_neg (by simp)]
        rw [e] at h
        exact h)
      obtain ⟨x0, x1, x2, x3, x4, x5⟩ := tr_at HM.out
      simp only [] at x0 x1 x2 x3 x4 x5
      go_wp2_with fail
      refine (HTK.out _).mono ?_
      rintro e w2 ⟨rfl, hb2⟩
      have MH := Lib.hid (made_at w2 (.cells (tryA ⟨2, 0, k, 1, k, (s : Int) + 3⟩) 23))
      have hal := hb2.alloc hb2.size (.cells (tryA ⟨2, 0, k, 1, k, (s : Int) + 3⟩) 23)
      have M2 := Lib.hid (later_at hal HM.out)
      have HB2 := Lib.hid (below_step HB.out hal)
      have HNE := Lib.hid (show w2.heap.size ≠ g from by have := (Array.getElem?_eq_some_iff.1 HM.out).1; have := hb2.size; omega)
      clear hb2 hal x0 x1 x2 x3 x4 x5 HM HB HTK
      go_upto_region 7 with fail
      generalize hW2 : (w2.alloc (.cells #[.int .i64 2, .int .i64 0, .int .i64 (k : Int), .int .i64 1, .int .i64 (k : Int), .int .i64 ((s : Int) + 3)] 23)) = W2 at *
      clear hW2
      generalize hg2 : w2.heap.size = h at *
      clear hg2
      go_wp2_with fail
      refine (lsawake_true HC.out _).mono ?_
      rintro e w3 ⟨rfl, hb3⟩
      have MH3 := Lib.hid (later_at hb3 MH.out)
      have M3 := Lib.hid (later_at hb3 M2.out)
      have HB3 := Lib.hid (below_step HB2.out hb3)
      clear hb3 MH M2 HB2
      obtain ⟨z, hz⟩ : ∃ z : TrP, z = missP ⟨2, 0, k, 1, k, (s : Int) + 3⟩ ((s : Int) + 3) R := ⟨_, rfl⟩
      have hz2 : if k = R then z = ⟨4, 0, (k : Int) + 1, 0, 0, 0⟩ else z = ⟨1, (s : Int) + 3 + ((k : Int) + 1), (k : Int) + 1, 0, 0, 0⟩ := by
        split
        · rename_i hkR
          rw [hz]
          unfold missP
          rw [if_neg (by simp), if_pos (by simp only []; omega)]
        · rw [hz]
          unfold missP
          rw [if_neg (by simp), if_neg (by simp only []; omega)]
      have HST := Lib.hid (fun W : World => show Calls Try.prog 10 #[.agg #[.int .i64 2, .int .i64 0, .int .i64 (k : Int), .int .i64 1, .int .i64 (k : Int), .int .i64 ((s : Int) + 3)], .int .i64 ((s : Int) + 3), .int .i64 (R : Int)] W (fun e w' => e = .returned (tryV z) ∧ Below W.heap.size W w') from by
        have h := HC.out.settle (w := W) ⟨2, 0, k, 1, k, (s : Int) + 3⟩ ((s : Int) + 3) R (by constructor <;> unfold smI <;> simp only [] <;> omega) (by unfold smI; omega) (by unfold smI; omega)
        have e : settleP ⟨2, 0, k, 1, k, (s : Int) + 3⟩ ((s : Int) + 3) R = z := by
          rw [hz]
          unfold settleP
          rw [if_pos ⟨rfl, Int.le_refl _⟩]
        rw [e] at h
        exact h)
      have HZ := Lib.hid hz2
      clear hz hz2
      obtain ⟨x0, x1, x2, x3, x4, x5⟩ := tr_at MH3.out
      simp only [] at x0 x1 x2 x3 x4 x5
      go_wp2_with fail
      refine (HST.out _).mono ?_
      rintro e w4 ⟨rfl, hb4⟩
      have MH4 := Lib.hid (later_at hb4 MH3.out)
      have M4 := Lib.hid (later_at hb4 M3.out)
      have HB4 := Lib.hid (below_step HB3.out hb4)
      clear hb4 MH3 M3 HB3 x0 x1 x2 x3 x4 x5 HST
      obtain ⟨y0, y1, y2, y3, y4, y5⟩ := tr_at M4.out
      have f0 := freeH M4.out 0
      have f1 := freeH M4.out 1
      have f2 := freeH M4.out 2
      have f3 := freeH M4.out 3
      have f4 := freeH M4.out 4
      have f5 := freeH M4.out 5
      simp only [] at y0 y1 y2 y3 y4 y5
      have M5 := Lib.hid (six_row (v0 := .int .i64 z.st) (v1 := .int .i64 z.sn) (v2 := .int .i64 z.ms) (v3 := .int .i64 z.wk) (v4 := .int .i64 z.ls) (v5 := .int .i64 z.un) M4.out)
      have MH5 := Lib.hid ((six_keep (v0 := .int .i64 z.st) (v1 := .int .i64 z.sn) (v2 := .int .i64 z.ms) (v3 := .int .i64 z.wk) (v4 := .int .i64 z.ls) (v5 := .int .i64 z.un) (W := w4) HNE.out).trans MH4.out)
      have HB5 := Lib.hid (six_below (v0 := .int .i64 z.st) (v1 := .int .i64 z.sn) (v2 := .int .i64 z.ms) (v3 := .int .i64 z.wk) (v4 := .int .i64 z.ls) (v5 := .int .i64 z.un) HB4.out HG.out)
      go_upto_region 10 with fail
      generalize hW5 : (((((w4.setCell ⟨g, 0, none⟩ (.int .i64 z.st)).setCell ⟨g, 1, none⟩ (.int .i64 z.sn)).setCell ⟨g, 2, none⟩ (.int .i64 z.ms)).setCell ⟨g, 3, none⟩ (.int .i64 z.wk)).setCell ⟨g, 4, none⟩ (.int .i64 z.ls)).setCell ⟨g, 5, none⟩ (.int .i64 z.un) = W5 at *
      clear hW5 y0 y1 y2 y3 y4 y5 f0 f1 f2 f3 f4 f5 M4 MH4 HB4
      obtain ⟨y0, y1, y2, y3, y4, y5⟩ := tr_at M5.out
      obtain ⟨x0, x1, x2, x3, x4, x5⟩ := tr_at MH5.out
      simp only [] at x0 x1 x2 x3 x4 x5
      by_cases hkR : k = R
      · have hz := HZ.out
        rw [if_pos hkR] at hz
        clear HZ
        subst hz hkR
        have n1 : (((k : Int) + 1) != ((k : Int) + 1)) = false := bne_self_eq_false _
        have n2 : ((k : Int) == (k : Int)) = true := beq_self_eq_true _
        have n3 : ¬ (k : Int) < (k : Int) := by omega
        simp only [] at y0 y1 y2 y3 y4 y5
        go_wp2_with fail
        go_roundw
        case rel => exact ⟨k + 1, _, by first | rfl | go_num, by omega, Lib.hid (fun h => by omega), Lib.hid (fun _ => rfl), M5, HB5⟩
        case measure => (simp [intOf]; try omega)
      · have hz := HZ.out
        rw [if_neg hkR] at hz
        clear HZ
        subst hz
        have n1 : (((k : Int) + 1) != ((k : Int) + 1)) = false := bne_self_eq_false _
        have n2 : ((k : Int) == (R : Int)) = false := beq_eq_false_iff_ne.2 (by omega)
        have n3 : (k : Int) < (R : Int) := by omega
        have n4 : (((s : Int) + 3 + ((k : Int) + 1)) != ((s : Int) + 3 + (k : Int) + 1)) = false := by rw [bne_eq_false_iff_eq]; omega
        simp only [] at y0 y1 y2 y3 y4 y5
        go_wp2_with fail
        go_roundw
        case rel => exact ⟨k + 1, _, by first | rfl | go_num, by omega, Lib.hid (fun h => ⟨s + 3 + (k + 1), by omega, by simp⟩), Lib.hid (fun h => by omega), M5, HB5⟩
        case measure => (simp [intOf]; try omega)
    · obtain rfl : k = R + 1 := by omega
      have hτ := HE.out rfl
      clear HT HE hlt
      have hlk : ¬ (((R + 1 : Nat) : Int) < (R : Int) + 1) := by omega
      have HST := Lib.hid (fun W : World => show Calls Try.prog 10 #[tryV τ, .int .i64 1073741824, .int .i64 (R : Int)] W (fun e w' => e = .returned (tryV τ) ∧ Below W.heap.size W w') from by
        have h := HC.out.settle (w := W) τ 1073741824 R (by rw [hτ]; constructor <;> unfold smI <;> simp only [] <;> omega) (by unfold smI; omega) (by unfold smI; omega)
        have e : settleP τ 1073741824 R = τ := by
          unfold settleP
          rw [if_neg (by rw [hτ]; simp)]
        rw [e] at h
        exact h)
      clear hτ
      have HS0 := Lib.hid (show TrS w [(g, τ)] wr.drew from ⟨fun u hu => by
        simp only [List.mem_cons, List.not_mem_nil, or_false] at hu
        subst hu
        exact HM.out, HB.out.drew⟩)
      have e1 : sameT τ τ = true := sameT_self τ
      obtain ⟨S, hS, hSk, hSe, hA⟩ : ∃ S : World → Prop, S wr.drew ∧ (∀ v v', S v → Below v.heap.size v v' → S v') ∧ (∀ v, S v → TrS w [(g, τ)] v) ∧
          (∀ z : HeldW S, z.w.cell? ⟨g, 0, none⟩ = some (.int .i64 τ.st) ∧ z.w.cell? ⟨g, 1, none⟩ = some (.int .i64 τ.sn) ∧ z.w.cell? ⟨g, 2, none⟩ = some (.int .i64 τ.ms) ∧ z.w.cell? ⟨g, 3, none⟩ = some (.int .i64 τ.wk) ∧ z.w.cell? ⟨g, 4, none⟩ = some (.int .i64 τ.ls) ∧ z.w.cell? ⟨g, 5, none⟩ = some (.int .i64 τ.un)) :=
        ⟨_, HS0.out, TrS.keep, fun v h => h, fun x => x.ok.cells 0 rfl⟩
      have HS := Lib.hid hS
      have HSK := Lib.hid hSk
      have HSE := Lib.hid hSe
      have a0 := fun z => (hA z).1
      have a1 := fun z => (hA z).2.1
      have a2 := fun z => (hA z).2.2.1
      have a3 := fun z => (hA z).2.2.2.1
      have a4 := fun z => (hA z).2.2.2.2.1
      have a5 := fun z => (hA z).2.2.2.2.2
      clear hA hS hSk hSe HS0 HM HB
      go_wp2_with fail
      refine wp_region_kept S (by kernel_rfl) (by kernel_rfl) HS.out ?_
      intro hne
      repeat (go_big_quiet_step (first | exact rfl | (go_at_call 10; refine kept_of HSK.out (HST.out _))))
      refine wpQuiet_nil ?_
      rintro w9 ⟨⟨_, hq9⟩, rfl⟩
      clear a0 a1 a2 a3 a4 a5 hne
      have HB9 := Lib.hid (HSE.out _ hq9).2
      clear hq9
      go_wp2_with fail
      go_ret
      exact ⟨by first | rfl | simp, HB9.out⟩
end Go.Proofs.Ytbenehdikigbaaa
