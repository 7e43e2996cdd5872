/-
  What the laws of layer 4 ask of the program's sector: each call does what the document's does. (A bundle of contracts; Next is asked for elsewhere.) SectorTorn, walked over it, given what awake answers.
-/
import Derived.Test.YtblmempidngcgaaSecD
import Derived.Outline
namespace Go.Proofs.Ytblmempidngcgaa
open Go.RowKit

/-- Its numbers are such as the types hold. -/
structure Pc.In (p : Pc) : Prop where
  fits : p.Fits
  g : -9223372036854775808 ≤ p.gen ∧ p.gen ≤ 9223372036854775807
  n : -9223372036854775808 ≤ p.no ∧ p.no ≤ 9223372036854775807
  i : -9223372036854775808 ≤ p.idx ∧ p.idx ≤ 9223372036854775807
  t : -9223372036854775808 ≤ p.tot ∧ p.tot ≤ 9223372036854775807
  d : p.data.size ≤ maxLen

/-- The program's calls are the document's. -/
structure SecK : Prop where
  right : ∀ (p : Pc), p.In → ∀ w : World, Calls Try.prog 11 #[pcV p] w fun e w' => e = .returned (.bool (rightP p)) ∧ Below w.heap.size w w'
  print : ∀ (p : Pc), p.In → ∀ w : World, Calls Try.prog 8 #[pcV p] w fun e w' => e = .returned (.tuple #[.string (if rightP p then printB p else ⟨#[]⟩), .int .i64 (if rightP p then 0 else 1)]) ∧ Below w.heap.size w w'
  read : ∀ (s : ByteArray), s.size ≤ maxLen → ∀ w : World, Calls Try.prog 13 #[.string s] w fun e w' => e = .returned (.tuple #[pcV ((readP s).getD noPc), .int .i64 (if (readP s).isSome then 0 else 3)]) ∧ Below w.heap.size w w'

theorem below_step {w a b : World} (h : Below w.heap.size w a) (k : Below a.heap.size a b) : Below w.heap.size w b := h.trans (k.mono h.size)

theorem cut_count (n : Int) : ∃ m : Nat, wrap64 (8 + wrap64 ((IntKind.u64.wrap n).tmod 49)) = m ∧ 8 ≤ m ∧ m ≤ 56 := by
  have h0 : 0 ≤ IntKind.u64.wrap n := by rw [IntKind.wrap_u64]; omega
  have e : (IntKind.u64.wrap n).tmod 49 = IntKind.u64.wrap n % 49 := Int.tmod_eq_emod_of_nonneg h0
  rw [e]
  generalize IntKind.u64.wrap n = z at h0
  refine ⟨(8 + z % 49).toNat, ?_, by omega, by omega⟩
  unfold wrap64
  omega

set_option maxHeartbeats 1000000 in
set_option maxRecDepth 100000 in
theorem torn_true (C : SecK) (aw : ∀ w : World, Calls Try.prog 7 #[] w fun e w' => e = .returned (.bool true) ∧ Below w.heap.size w w')
    (a b : Pc) (ha : a.In) (hb : b.In) (n : Int) (w : World) :
    Calls Try.prog 4 #[pcV a, pcV b, .int .i64 n] w fun e w' => e = .returned (.bool true) ∧ Below w.heap.size w w' := by
  obtain ⟨m, hm, hm1, hm2⟩ := cut_count n
  have HC := Lib.hid C
  have AW := Lib.hid aw
  have RA := Lib.hid (fun w : World => refright_is a.stamp a.gen a.no a.idx a.tot a.data w)
  have RB := Lib.hid (fun w : World => refright_is b.stamp b.gen b.no b.idx b.tot b.data w)
  change Hid (∀ w : World, Calls Try.prog 9 _ w fun e w' => e = .returned (.bool (rightP a)) ∧ Below w.heap.size w w') at RA
  change Hid (∀ w : World, Calls Try.prog 9 _ w fun e w' => e = .returned (.bool (rightP b)) ∧ Below w.heap.size w w') at RB
  have HIa := Lib.hid ha
  have HIb := Lib.hid hb
  clear C aw ha hb
  go_enter Try.func4, Try.ntmps4
  go_wp2_with fail
  refine (AW.out _).mono ?_
  rintro e w1 ⟨rfl, hb1⟩
  have HB1 := Lib.hid (below_step (((Below.refl w.heap.size w).alloc (Nat.le_refl _) (.cells #[.int .u64 a.stamp, .int .i64 a.gen, .int .i64 a.no, .int .i64 a.idx, .int .i64 a.tot, .string a.data] 24)).alloc (by simp) (.cells #[.int .u64 b.stamp, .int .i64 b.gen, .int .i64 b.no, .int .i64 b.idx, .int .i64 b.tot, .string b.data] 24)) hb1)
  have HZ1 := Lib.hid (show w1.heap[w.heap.size]? = some (.cells #[.int .u64 a.stamp, .int .i64 a.gen, .int .i64 a.no, .int .i64 a.idx, .int .i64 a.tot, .string a.data] 24 (0, 0)) from later_at hb1 (by show ((w.heap.push _).push _)[w.heap.size]? = _; rw [Array.getElem?_push, if_neg (by simp), Array.getElem?_push, if_pos rfl]))
  have HX1 := Lib.hid (show w1.heap[w.heap.size + 1]? = some (.cells #[.int .u64 b.stamp, .int .i64 b.gen, .int .i64 b.no, .int .i64 b.idx, .int .i64 b.tot, .string b.data] 24 (0, 0)) from later_at hb1 (by show ((w.heap.push _).push _)[w.heap.size + 1]? = _; rw [Array.getElem?_push, if_pos (by simp)]))
  clear hb1
  rw [hm]
  clear hm
  have z0 := cellH HZ1.out 0
  have z1 := cellH HZ1.out 1
  have z2 := cellH HZ1.out 2
  have z3 := cellH HZ1.out 3
  have z4 := cellH HZ1.out 4
  have z5 := cellH HZ1.out 5
  have zf := freeH HZ1.out
  have x0 := cellH HX1.out 0
  have x1 := cellH HX1.out 1
  have x2 := cellH HX1.out 2
  have x3 := cellH HX1.out 3
  have x4 := cellH HX1.out 4
  have x5 := cellH HX1.out 5
  have xf := freeH HX1.out
  simp at z0 z1 z2 z3 z4 z5 x0 x1 x2 x3 x4 x5
  go_wp2_with fail
  refine (like_is _ _ _ _ _ _ _).mono ?_
  rintro e w2 ⟨rfl, hb2⟩
  have HZ2 := Lib.hid (later_at hb2 HZ1.out)
  have HX2 := Lib.hid (later_at hb2 HX1.out)
  have HB2 := Lib.hid (below_step HB1.out hb2)
  clear HB1 hb2 HZ1 HX1 z0 z1 z2 z3 z4 z5 zf x0 x1 x2 x3 x4 x5 xf
  have z0 := cellH HZ2.out 0
  have z1 := cellH HZ2.out 1
  have z2 := cellH HZ2.out 2
  have z3 := cellH HZ2.out 3
  have z4 := cellH HZ2.out 4
  have z5 := cellH HZ2.out 5
  have zf := freeH HZ2.out
  have x0 := cellH HX2.out 0
  have x1 := cellH HX2.out 1
  have x2 := cellH HX2.out 2
  have x3 := cellH HX2.out 3
  have x4 := cellH HX2.out 4
  have x5 := cellH HX2.out 5
  have xf := freeH HX2.out
  simp at z0 z1 z2 z3 z4 z5 x0 x1 x2 x3 x4 x5
  go_wp2_with fail
  refine (RA.out _).mono ?_
  rintro e w3 ⟨rfl, hb3⟩
  have HZ3 := Lib.hid (later_at hb3 HZ2.out)
  have HX3 := Lib.hid (later_at hb3 HX2.out)
  have HB3 := Lib.hid (below_step HB2.out hb3)
  clear HB2 hb3 HZ2 HX2 z0 z1 z2 z3 z4 z5 zf x0 x1 x2 x3 x4 x5 xf
  have z0 := cellH HZ3.out 0
  have z1 := cellH HZ3.out 1
  have z2 := cellH HZ3.out 2
  have z3 := cellH HZ3.out 3
  have z4 := cellH HZ3.out 4
  have z5 := cellH HZ3.out 5
  have zf := freeH HZ3.out
  have x0 := cellH HX3.out 0
  have x1 := cellH HX3.out 1
  have x2 := cellH HX3.out 2
  have x3 := cellH HX3.out 3
  have x4 := cellH HX3.out 4
  have x5 := cellH HX3.out 5
  have xf := freeH HX3.out
  simp at z0 z1 z2 z3 z4 z5 x0 x1 x2 x3 x4 x5
  cases hra : rightP a
  · go_wp2_with fail
    refine (AW.out _).mono ?_
    rintro e w4 ⟨rfl, hb4⟩
    have HB4 := Lib.hid (below_step HB3.out hb4)
    clear HB3 hb4 HZ3 HX3 z0 z1 z2 z3 z4 z5 zf x0 x1 x2 x3 x4 x5 xf
    go_wp2_with fail
    refine bodyPost_ret (v := .bool true) (by simp [results, Try.results4, go_sem]) rfl ⟨rfl, ?_⟩
    exact HB4.out
  · go_wp2_with fail
    refine (like_is _ _ _ _ _ _ _).mono ?_
    rintro e w4 ⟨rfl, hb4⟩
    have HZ4 := Lib.hid (later_at hb4 HZ3.out)
    have HX4 := Lib.hid (later_at hb4 HX3.out)
    have HB4 := Lib.hid (below_step HB3.out hb4)
    clear HB3 hb4 HZ3 HX3 z0 z1 z2 z3 z4 z5 zf x0 x1 x2 x3 x4 x5 xf
    have z0 := cellH HZ4.out 0
    have z1 := cellH HZ4.out 1
    have z2 := cellH HZ4.out 2
    have z3 := cellH HZ4.out 3
    have z4 := cellH HZ4.out 4
    have z5 := cellH HZ4.out 5
    have zf := freeH HZ4.out
    have x0 := cellH HX4.out 0
    have x1 := cellH HX4.out 1
    have x2 := cellH HX4.out 2
    have x3 := cellH HX4.out 3
    have x4 := cellH HX4.out 4
    have x5 := cellH HX4.out 5
    have xf := freeH HX4.out
    simp at z0 z1 z2 z3 z4 z5 x0 x1 x2 x3 x4 x5
    go_wp2_with fail
    refine (RB.out _).mono ?_
    rintro e w5 ⟨rfl, hb5⟩
    have HZ5 := Lib.hid (later_at hb5 HZ4.out)
    have HX5 := Lib.hid (later_at hb5 HX4.out)
    have HB5 := Lib.hid (below_step HB4.out hb5)
    clear HB4 hb5 HZ4 HX4 z0 z1 z2 z3 z4 z5 zf x0 x1 x2 x3 x4 x5 xf
    have z0 := cellH HZ5.out 0
    have z1 := cellH HZ5.out 1
    have z2 := cellH HZ5.out 2
    have z3 := cellH HZ5.out 3
    have z4 := cellH HZ5.out 4
    have z5 := cellH HZ5.out 5
    have zf := freeH HZ5.out
    have x0 := cellH HX5.out 0
    have x1 := cellH HX5.out 1
    have x2 := cellH HX5.out 2
    have x3 := cellH HX5.out 3
    have x4 := cellH HX5.out 4
    have x5 := cellH HX5.out 5
    have xf := freeH HX5.out
    simp at z0 z1 z2 z3 z4 z5 x0 x1 x2 x3 x4 x5
    cases hrb : rightP b
    · go_wp2_with fail
      refine (AW.out _).mono ?_
      rintro e w6 ⟨rfl, hb6⟩
      have HB6 := Lib.hid (below_step HB5.out hb6)
      clear HB5 hb6 HZ5 HX5 z0 z1 z2 z3 z4 z5 zf x0 x1 x2 x3 x4 x5 xf
      go_wp2_with fail
      refine bodyPost_ret (v := .bool true) (by simp [results, Try.results4, go_sem]) rfl ⟨rfl, ?_⟩
      exact HB6.out
    · by_cases hst : a.stamp = b.stamp
      · go_wp2_with fail
        refine (AW.out _).mono ?_
        rintro e w6 ⟨rfl, hb6⟩
        have HB6 := Lib.hid (below_step HB5.out hb6)
        clear HB5 hb6 HZ5 HX5 z0 z1 z2 z3 z4 z5 zf x0 x1 x2 x3 x4 x5 xf
        go_wp2_with fail
        refine bodyPost_ret (v := .bool true) (by simp [results, Try.results4, go_sem]) rfl ⟨rfl, ?_⟩
        exact HB6.out
      · have PA := Lib.hid (HC.out.print a HIa.out)
        have PB := Lib.hid (HC.out.print b HIb.out)
        rw [if_pos hra, if_pos hra] at PA
        rw [if_pos hrb, if_pos hrb] at PB
        have oka := (rightP_iff a).1 hra
        have okb := (rightP_iff b).1 hrb
        have sa := print_size oka.d
        have sb := print_size okb.d
        have HN := Lib.hid (torn_none oka HIa.out.fits okb HIb.out.fits hst hm1 hm2)
        have HR := Lib.hid (HC.out.read ((printB a).extract 0 m ++ (printB b).extract m 64) (by rw [ByteArray.size_append, ByteArray.size_extract, ByteArray.size_extract]; unfold maxLen; omega))
        rw [HN.out] at HR
        clear HC HIa HIb hra hrb oka okb HN RA RB AW
        go_wp2_with fail
        refine (PA.out _).mono ?_
        rintro e w6 ⟨rfl, hb6⟩
        have HZ6 := Lib.hid (later_at hb6 HZ5.out)
        have HX6 := Lib.hid (later_at hb6 HX5.out)
        have HB6 := Lib.hid (below_step HB5.out hb6)
        clear HB5 hb6 HZ5 HX5 z0 z1 z2 z3 z4 z5 zf x0 x1 x2 x3 x4 x5 xf
        have z0 := cellH HZ6.out 0
        have z1 := cellH HZ6.out 1
        have z2 := cellH HZ6.out 2
        have z3 := cellH HZ6.out 3
        have z4 := cellH HZ6.out 4
        have z5 := cellH HZ6.out 5
        have zf := freeH HZ6.out
        have x0 := cellH HX6.out 0
        have x1 := cellH HX6.out 1
        have x2 := cellH HX6.out 2
        have x3 := cellH HX6.out 3
        have x4 := cellH HX6.out 4
        have x5 := cellH HX6.out 5
        have xf := freeH HX6.out
        simp at z0 z1 z2 z3 z4 z5 x0 x1 x2 x3 x4 x5
        go_wp2_with fail
        refine (PB.out _).mono ?_
        rintro e w7 ⟨rfl, hb7⟩
        have HZ7 := Lib.hid (later_at hb7 HZ6.out)
        have HX7 := Lib.hid (later_at hb7 HX6.out)
        have HB7 := Lib.hid (below_step HB6.out hb7)
        clear HB6 hb7 HZ6 HX6 z0 z1 z2 z3 z4 z5 zf x0 x1 x2 x3 x4 x5 xf
        have z0 := cellH HZ7.out 0
        have z1 := cellH HZ7.out 1
        have z2 := cellH HZ7.out 2
        have z3 := cellH HZ7.out 3
        have z4 := cellH HZ7.out 4
        have z5 := cellH HZ7.out 5
        have zf := freeH HZ7.out
        have x0 := cellH HX7.out 0
        have x1 := cellH HX7.out 1
        have x2 := cellH HX7.out 2
        have x3 := cellH HX7.out 3
        have x4 := cellH HX7.out 4
        have x5 := cellH HX7.out 5
        have xf := freeH HX7.out
        simp at z0 z1 z2 z3 z4 z5 x0 x1 x2 x3 x4 x5
        have c1 : (m : Int) ≤ 64 := by omega
        have c2 : (0 : Int) ≤ m := by omega
        have c3 : (m : Int).toNat = m := by omega
        have c4 : ¬ 9223372036854775807 < min m 64 + (64 - m) := by omega
        generalize printB a = s at *
        generalize printB b = t at *
        go_wp2_with fail
        refine wp_region_first 7 7 (by kernel_rfl) (by kernel_rfl) rfl (by kernel_rfl) (fun _ _ _ _ _ h => h) ?_
        simp only [List.take_succ_cons, List.take_zero]
        (refine stillL_val _ (fun w => (by go_simp; try with_reducible rfl)) ?_; simp only [Act.put, List.setIfInBounds_toArray, List.set_cons_zero, List.set_cons_succ])
        (refine stillL_val _ (fun w => (by go_simp; try with_reducible rfl)) ?_; simp only [Act.put, List.setIfInBounds_toArray, List.set_cons_zero, List.set_cons_succ])
        (refine stillL_val _ (fun w => (by go_simp; try with_reducible rfl)) ?_; simp only [Act.put, List.setIfInBounds_toArray, List.set_cons_zero, List.set_cons_succ])
        (refine stillL_val _ (fun w => (by go_simp; try with_reducible rfl)) ?_; simp only [Act.put, List.setIfInBounds_toArray, List.set_cons_zero, List.set_cons_succ])
        (refine stillL_val _ (fun w => (by go_simp; try with_reducible rfl)) ?_; simp only [Act.put, List.setIfInBounds_toArray, List.set_cons_zero, List.set_cons_succ])
        (refine stillL_val _ (fun w => (by go_simp; try with_reducible rfl)) ?_; simp only [Act.put, List.setIfInBounds_toArray, List.set_cons_zero, List.set_cons_succ])
        (refine stillL_val _ (fun w => (by go_simp; try with_reducible rfl)) ?_; simp only [Act.put, List.setIfInBounds_toArray, List.set_cons_zero, List.set_cons_succ])
        show wpAny _ _ _ _ 7 _ _ _
        refine two_ready (i := 7) (k := 11) (by kernel_rfl) (wpOp_step rfl (fun K' hK' => ?_)) (wpOp_step rfl (fun K' hK' => ?_))
        · go_simp
          refine (HR.out _).mono ?_
          rintro e w8 ⟨rfl, hb8⟩
          have HB8 := Lib.hid (below_step HB7.out.drew hb8)
          clear HR HB7 hb8 HZ7 HX7 z0 z1 z2 z3 z4 z5 zf x0 x1 x2 x3 x4 x5 xf
          go_simp
          refine hK' _ _ ?_
          clear hK' K'
          refine any_take 8 50 rfl rfl (by kernel_rfl) (by kernel_rfl) (by kernel_rfl) (fun _ _ d _ _ h => by cases d <;> exact h) rfl (fun w => by go_simp; try with_reducible rfl) ?_
          simp only [Act.put, List.setIfInBounds_toArray, List.set_cons_zero, List.set_cons_succ]
          refine any_take 9 59 rfl rfl (by kernel_rfl) (by kernel_rfl) (by kernel_rfl) (fun _ _ d _ _ h => by cases d <;> exact h) rfl (fun w => by go_simp; try with_reducible rfl) ?_
          simp only [Act.put, List.setIfInBounds_toArray, List.set_cons_zero, List.set_cons_succ]
          refine any_take 10 60 rfl rfl (by kernel_rfl) (by kernel_rfl) (by kernel_rfl) (fun _ _ d _ _ h => by cases d <;> exact h) rfl (fun w => by go_simp; try with_reducible rfl) ?_
          simp only [Act.put, List.setIfInBounds_toArray, List.set_cons_zero, List.set_cons_succ]
          refine one_ready (i := 11) (by kernel_rfl) (wpOp_step rfl (fun K' hK' => ?_))
          go_simp
          refine hK' _ _ ?_
          clear hK' K'
          refine one_ready (i := 12) (by kernel_rfl) (wpOp_step rfl (fun K' hK' => ?_))
          go_simp
          refine hK' _ _ ?_
          clear hK' K'
          refine one_ready (i := 13) (by kernel_rfl) (wpOp_step rfl (fun K' hK' => ?_))
          go_simp
          refine hK' _ _ ?_
          clear hK' K'
          refine ⟨by kernel_rfl, ?_⟩
          go_wp2_with fail
          refine bodyPost_ret (v := .bool true) (by simp [results, Try.results4, go_sem]) rfl ⟨rfl, ?_⟩
          exact HB8.out.alloc HB8.out.size _
        · go_simp
          refine hK' _ _ ?_
          clear hK' K'
          refine one_ready (i := 7) (by kernel_rfl) (wpOp_step rfl (fun K' hK' => ?_))
          go_simp
          refine (HR.out _).mono ?_
          rintro e w8 ⟨rfl, hb8⟩
          have hs7 := HB7.out.size
          have HB8 := Lib.hid (below_step (HB7.out.alloc HB7.out.size (.cells #[.int .u64 0, .int .i64 0, .int .i64 0, .int .i64 0, .int .i64 0, .string ⟨#[]⟩] 24)).drew hb8)
          have HY8 := Lib.hid (show w8.heap[w7.heap.size]? = some (.cells #[.int .u64 0, .int .i64 0, .int .i64 0, .int .i64 0, .int .i64 0, .string ⟨#[]⟩] 24 (0, 0)) from later_at hb8 (made_at _ _))
          clear HR HB7 hb8 HZ7 HX7 z0 z1 z2 z3 z4 z5 zf x0 x1 x2 x3 x4 x5 xf
          have y0 := cellH HY8.out 0
          have y1 := cellH HY8.out 1
          have y2 := cellH HY8.out 2
          have y3 := cellH HY8.out 3
          have y4 := cellH HY8.out 4
          have y5 := cellH HY8.out 5
          have yf := freeH HY8.out
          simp at y0 y1 y2 y3 y4 y5
          go_simp
          refine hK' _ _ ?_
          clear hK' K'
          refine any_take 8 50 rfl rfl (by kernel_rfl) (by kernel_rfl) (by kernel_rfl) (fun _ _ d _ _ h => by cases d <;> exact h) rfl (fun w => by go_simp; try with_reducible rfl) ?_
          simp only [Act.put, List.setIfInBounds_toArray, List.set_cons_zero, List.set_cons_succ]
          refine any_take 9 59 rfl rfl (by kernel_rfl) (by kernel_rfl) (by kernel_rfl) (fun _ _ d _ _ h => by cases d <;> exact h) rfl (fun w => by go_simp; try with_reducible rfl) ?_
          simp only [Act.put, List.setIfInBounds_toArray, List.set_cons_zero, List.set_cons_succ]
          refine any_take 10 60 rfl rfl (by kernel_rfl) (by kernel_rfl) (by kernel_rfl) (fun _ _ d _ _ h => by cases d <;> exact h) rfl (fun w => by go_simp; try with_reducible rfl) ?_
          simp only [Act.put, List.setIfInBounds_toArray, List.set_cons_zero, List.set_cons_succ]
          refine one_ready (i := 12) (by kernel_rfl) (wpOp_step rfl (fun K' hK' => ?_))
          go_simp
          refine hK' _ _ ?_
          clear hK' K'
          refine one_ready (i := 13) (by kernel_rfl) (wpOp_step rfl (fun K' hK' => ?_))
          go_simp
          refine hK' _ _ ?_
          clear hK' K'
          refine ⟨by kernel_rfl, ?_⟩
          go_wp2_with fail
          refine bodyPost_ret (v := .bool true) (by simp [results, Try.results4, go_sem]) rfl ⟨rfl, ?_⟩
          repeat (refine Below.setCell ?_ hs7 _)
          exact HB8.out
end Go.Proofs.Ytblmempidngcgaa
