/-
  LeaseSettles over the bundle. No conditions.
-/
import Derived.Test.YtbenehdikigbaaaLsAw
namespace Go.Proofs.Ytbenehdikigbaaa
open Go.RowKit

theorem later_below {w w' : World} {n B : Nat} {o : Obj} (hb : Below n w w') (h : w.heap[B]? = some o) (hB : B < n) : w'.heap[B]? = some o := by
  rw [hb.block B hB]; exact h
theorem own_new (w : World) (t : TypeId) (xs : List Value) (hl : xs.length ≤ 1000) : (w.alloc (.cells xs.toArray t)).ownsRow w.heap.size t 1 (.slice (some ⟨w.heap.size, 0, none⟩) xs.length xs.length) xs.length xs := by
  refine ⟨by simp, .inr ⟨w.heap.size, xs.length, xs.toArray, rfl, Nat.le_refl _, made_at w _, Nat.le_refl _, by unfold maxLen; omega, by simp, by simp⟩⟩
set_option maxHeartbeats 8000000 in
set_option maxRecDepth 100000 in
theorem leasesettles_true (C : LeaseOk) {w : World} (t : TrP) (a b r : Int) : Calls Try.prog 3 #[tryV t, .int .i64 a, .int .i64 b, .int .i64 r] w fun e w' => e = .returned (.bool true) ∧ Below w.heap.size w w' := by
  have HC := Lib.hid C
  have HCH := fun (t : TrP) (a k l : Int) (W : World) => C.holds (w := W) t a k l
  clear C
  have M0 := Lib.hid (made_at w (.cells (tryA t) 23))
  have HB0 := Lib.hid ((Below.refl w.heap.size w).alloc (Nat.le_refl _) (.cells (tryA t) 23))
  go_enter Try.func3, Try.ntmps3
  go_upto_region 1 with fail
  generalize hW0 : (w.alloc (.cells (tryA t) 23)) = W0 at *
  clear hW0
  go_wp2_with fail
  refine (lsawake_true HC.out _).mono ?_
  rintro e w1 ⟨rfl, hb1⟩
  have M1 := Lib.hid (later_at hb1 M0.out)
  have HB1 := Lib.hid (below_step HB0.out hb1)
  clear hb1 M0 HB0
  have hlt : w.heap.size < w1.heap.size := (Array.getElem?_eq_some_iff.1 M1.out).1
  obtain ⟨x0, x1, x2, x3, x4, x5⟩ := tr_at M1.out
  have HSM := Lib.hid (small_is (b := w1.heap.size) (l := [a, b, r]) t (w := w1.alloc (.cells #[.int .i64 a, .int .i64 b, .int .i64 r] 3)) (by rw [World.size_alloc]; omega) (by simp) (own_new w1 3 [.int .i64 a, .int .i64 b, .int .i64 r] (by simp)))
  have HAL := Lib.hid ((Below.refl w1.heap.size w1).alloc (Nat.le_refl _) (.cells #[.int .i64 a, .int .i64 b, .int .i64 r] 3))
  obtain ⟨sb, hsb⟩ : ∃ sb, sb = ([a, b, r] ++ tryL t).all smB := ⟨_, rfl⟩
  rw [← hsb] at HSM
  have HSB := Lib.hid hsb
  have HLT := Lib.hid hlt
  clear hsb hlt
  go_wp2_with fail
  refine HSM.out.mono ?_
  rintro e w2 ⟨rfl, hb2⟩
  have hb12 := HAL.out.trans hb2
  have M2 := Lib.hid (later_below hb12 M1.out HLT.out)
  have HB2 := Lib.hid (HB1.out.trans (hb12.mono HB1.out.size))
  clear hb2 hb12 x0 x1 x2 x3 x4 x5 HSM HAL M1 HB1 HLT
  cases sb with
  | false =>
    go_wp2_with fail
    refine (lsawake_true HC.out _).mono ?_
    rintro e w3 ⟨rfl, hb3⟩
    have HB3 := Lib.hid (below_step HB2.out hb3)
    clear hb3
    go_wp2_with fail
    go_ret
    exact ⟨rfl, HB3.out⟩
  | true =>
  have HSL := Lib.hid (show ([a, b, r].all smB = true) ∧ SmallT t from by
    have := HSB.out
    rw [List.all_append, eq_comm, Bool.and_eq_true] at this
    exact ⟨this.1, tryL_small this.2⟩)
  have hsm : smI a ∧ smI b ∧ smI r := by
    have := HSL.out.1
    simp only [List.all_cons, List.all_nil, Bool.and_true, Bool.and_eq_true, smB_iff] at this
    exact this
  have HAB := Lib.hid hsm
  clear hsm HSB
  by_cases hab : b < a
  · go_wp2_with fail
    refine (lsawake_true HC.out _).mono ?_
    rintro e w3 ⟨rfl, hb3⟩
    have HB3 := Lib.hid (below_step HB2.out hb3)
    clear hb3
    go_wp2_with fail
    go_ret
    exact ⟨rfl, HB3.out⟩
  obtain ⟨x0, x1, x2, x3, x4, x5⟩ := tr_at M2.out
  go_wp2_with fail
  refine (tlike_is t _).mono ?_
  rintro e w3 ⟨rfl, hb3⟩
  have M3 := Lib.hid (later_at hb3 M2.out)
  have HB3 := Lib.hid (below_step HB2.out hb3)
  have hrt := refright11_is t w3
  obtain ⟨rb, hrb⟩ : ∃ rb, rb = rightT t := ⟨_, rfl⟩
  rw [← hrb] at hrt
  have HRT := Lib.hid hrt
  have HRB := Lib.hid hrb
  clear hb3 x0 x1 x2 x3 x4 x5 M2 HB2 hrt hrb
  go_wp2_with fail
  refine HRT.out.mono ?_
  rintro e w4 ⟨rfl, hb4⟩
  have M4 := Lib.hid (later_at hb4 M3.out)
  have HB4 := Lib.hid (below_step HB3.out hb4)
  clear hb4 M3 HB3 HRT
  have HLE := Lib.hid (show a ≤ b by omega)
  cases rb with
  | false =>
    go_wp2_with fail
    refine (lsawake_true HC.out _).mono ?_
    rintro e w5 ⟨rfl, hb5⟩
    have HB5 := Lib.hid (below_step HB4.out hb5)
    clear hb5
    go_wp2_with fail
    go_ret
    exact ⟨rfl, HB5.out⟩
  | true =>
  obtain ⟨F, hF⟩ : ∃ F : TrP → Int → TrP, F = fun u c => settleP u c r := ⟨_, rfl⟩
  obtain ⟨x, hx⟩ : ∃ x, F t a = x := ⟨_, rfl⟩
  obtain ⟨y, hy⟩ : ∃ y, F t b = y := ⟨_, rfl⟩
  have f2 : F x b = y := by rw [← hx, ← hy, hF]; exact settle_later r HLE.out
  have f3 : F x a = x := by rw [← hx, hF]; exact settle_twice t a r
  have HXS := Lib.hid (show SmallT x from by rw [← hx, hF]; exact settle_small HRB.out.symm)
  have HST := Lib.hid (fun (W : World) (u : TrP) (c : Int) (hu : SmallT u) (hc : smI c) => show Calls Try.prog 10 #[tryV u, .int .i64 c, .int .i64 r] W (fun e w' => e = .returned (tryV (F u c)) ∧ Below W.heap.size W w') from by rw [hF]; exact HC.out.settle u c r hu hc HAB.out.2.2)
  have HHO := Lib.hid (fun h : holdsP t a t.wk t.ls = true => show x = t from by rw [← hx, hF]; exact settle_held r h)
  have HMS := Lib.hid (show x.ms = t.ms ∨ (x.ms = t.ms + 1 ∧ x.st ≠ 2) from by rw [← hx, hF]; exact settle_ms t a r)
  clear hF
  obtain ⟨x0, x1, x2, x3, x4, x5⟩ := tr_at M4.out
  go_wp2_with fail
  refine (HST.out _ t a HSL.out.2 HAB.out.1).mono ?_
  rintro e w5 ⟨rfl, hb5⟩
  have MX := Lib.hid (made_at w5 (.cells (tryA x) 23))
  have hal := hb5.alloc hb5.size (.cells (tryA x) 23)
  have M5 := Lib.hid (later_at hal M4.out)
  have HB5 := Lib.hid (below_step HB4.out hal)
  clear hb5 hal x0 x1 x2 x3 x4 x5 M4 HB4
  rw [hx]
  clear hx
  go_upto_region 4 with fail
  generalize hW5 : (w5.alloc (.cells #[.int .i64 x.st, .int .i64 x.sn, .int .i64 x.ms, .int .i64 x.wk, .int .i64 x.ls, .int .i64 x.un] 23)) = W5 at *
  clear hW5
  generalize hg5 : w5.heap.size = g5 at *
  clear hg5
  generalize hg0 : w.heap.size = g0 at M5
  have HS0 := Lib.hid (show TrS w [(g0, t), (g5, x)] W5.drew from ⟨fun u hu => by
    simp only [List.mem_cons, List.not_mem_nil, or_false] at hu
    rcases hu with rfl | rfl
    · exact M5.out
    · exact MX.out, HB5.out.drew⟩)
  clear hg0
  obtain ⟨S, hS, hSk, hSe, hA, hH⟩ : ∃ S : World → Prop, S W5.drew ∧ (∀ v v', S v → Below v.heap.size v v' → S v') ∧ (∀ v, S v → TrS w [(g0, t), (g5, x)] v) ∧
      (∀ z : HeldW S, z.w.cell? ⟨g0, 0, none⟩ = some (.int .i64 t.st) ∧ z.w.cell? ⟨g0, 1, none⟩ = some (.int .i64 t.sn) ∧ z.w.cell? ⟨g0, 2, none⟩ = some (.int .i64 t.ms) ∧ z.w.cell? ⟨g0, 3, none⟩ = some (.int .i64 t.wk) ∧ z.w.cell? ⟨g0, 4, none⟩ = some (.int .i64 t.ls) ∧ z.w.cell? ⟨g0, 5, none⟩ = some (.int .i64 t.un)) ∧
      (∀ z : HeldW S, z.w.cell? ⟨g5, 0, none⟩ = some (.int .i64 x.st) ∧ z.w.cell? ⟨g5, 1, none⟩ = some (.int .i64 x.sn) ∧ z.w.cell? ⟨g5, 2, none⟩ = some (.int .i64 x.ms) ∧ z.w.cell? ⟨g5, 3, none⟩ = some (.int .i64 x.wk) ∧ z.w.cell? ⟨g5, 4, none⟩ = some (.int .i64 x.ls) ∧ z.w.cell? ⟨g5, 5, none⟩ = some (.int .i64 x.un)) :=
    ⟨_, HS0.out, TrS.keep, fun v h => h, fun x => x.ok.cells 0 rfl, fun x => x.ok.cells 1 rfl⟩
  have HS := Lib.hid hS
  have HSK := Lib.hid hSk
  have HSE := Lib.hid hSe
  have HAA := Lib.hid HAB.out
  have e1 : sameT y y = true := sameT_self y
  have e2 : sameT x x = true := sameT_self x
  clear hS hSk hSe HS0 M5 MX HB5
  have a0 := fun z => (hA z).1
  have a1 := fun z => (hA z).2.1
  have a2 := fun z => (hA z).2.2.1
  have a3 := fun z => (hA z).2.2.2.1
  have a4 := fun z => (hA z).2.2.2.2.1
  have a5 := fun z => (hA z).2.2.2.2.2
  have h0 := fun z => (hH z).1
  have h1 := fun z => (hH z).2.1
  have h2 := fun z => (hH z).2.2.1
  have h3 := fun z => (hH z).2.2.2.1
  have h4 := fun z => (hH z).2.2.2.2.1
  have h5 := fun z => (hH z).2.2.2.2.2
  clear hA hH
  refine wp_region_kept S (by kernel_rfl) (by kernel_rfl) HS.out ?_
  intro hne
  repeat (go_big_quiet_step (first | exact rfl | (go_at_call 10; refine kept_of HSK.out (HST.out _ _ _ (by first | exact HXS.out | exact HSL.out.2) (by first | exact HAA.out.1 | exact HAA.out.2.1)))))
  refine wpQuiet_nil ?_
  rintro w9 ⟨⟨_, hq9⟩, rfl⟩
  clear a0 a1 a2 a3 a4 a5 h0 h1 h2 h3 h4 h5 hne
  have hq := HSE.out _ hq9
  have M9 := Lib.hid (show w9.heap[g0]? = some (.cells (tryA t) 23 (0, 0)) from hq.1 (g0, t) (by simp))
  have MX9 := Lib.hid (show w9.heap[g5]? = some (.cells (tryA x) 23 (0, 0)) from hq.1 (g5, x) (by simp))
  have HB9 := Lib.hid hq.2
  clear hq9 hq e1 HST HXS HS HSK HSE HAA HAB HC
  obtain ⟨hb, hhb⟩ : ∃ hb, hb = holdsP t a t.wk t.ls := ⟨_, rfl⟩
  have hho := HCH t a t.wk t.ls w9
  rw [← hhb] at hho
  have HH := Lib.hid hho
  have HHB := Lib.hid hhb
  clear hho hhb
  obtain ⟨x0, x1, x2, x3, x4, x5⟩ := tr_at M9.out
  go_wp2_with fail
  refine HH.out.mono ?_
  rintro e w10 ⟨rfl, hb10⟩
  have N9 := Lib.hid (later_at hb10 M9.out)
  have NX9 := Lib.hid (later_at hb10 MX9.out)
  have HB10 := Lib.hid (below_step HB9.out hb10)
  clear hb10 x0 x1 x2 x3 x4 x5 HH M9 MX9 HB9
  cases hb with
  | true =>
    obtain rfl : x = t := HHO.out HHB.out.symm
    have e3 : x.ms = x.ms := rfl
    obtain ⟨x0, x1, x2, x3, x4, x5⟩ := tr_at N9.out
    obtain ⟨y0, y1, y2, y3, y4, y5⟩ := tr_at NX9.out
    go_wp2_with fail
    go_ret
    exact ⟨by first | rfl | simp, HB10.out⟩
  | false =>
    clear HHO HHB
    obtain ⟨x0, x1, x2, x3, x4, x5⟩ := tr_at N9.out
    obtain ⟨y0, y1, y2, y3, y4, y5⟩ := tr_at NX9.out
    by_cases hms : x.ms = t.ms
    · have n1 : (x.ms == t.ms) = true := beq_iff_eq.2 hms
      clear hms
      go_wp2_with fail
      go_ret
      exact ⟨by first | rfl | simp, HB10.out⟩
    · have n1 : (x.ms == t.ms) = false := beq_eq_false_iff_ne.2 hms
      have hms2 := HMS.out.resolve_left hms
      have hsm := HSL.out.2.ms
      unfold smI at hsm
      have n2 : (x.ms == t.ms + 1) = true := beq_iff_eq.2 hms2.1
      have n3 : (x.st != 2) = true := bne_iff_ne.2 hms2.2
      have l1 := hsm.1
      have l2 := hsm.2
      clear hms hms2 hsm
      go_wp2_with fail
      go_ret
      exact ⟨by first | rfl | simp, HB10.out⟩
end Go.Proofs.Ytbenehdikigbaaa
