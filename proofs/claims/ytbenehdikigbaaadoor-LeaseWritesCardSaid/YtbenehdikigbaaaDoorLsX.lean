/-
  LeaseWrites, walked, over what the program's lease, its Write and Read do. Conditions: what the library's variables hold.
-/
import Derived.Test.YtbenehdikigbaaaDoorLsW
namespace Go.Proofs.YtbenehdikigbaaaDoor
open Go.RowKit

theorem tr_at0 {W : World} {g : Nat} (h1 : W.heap[g]? = some (.cells (tryA noTr) 23 (0, 0))) :
    W.cell? ⟨g, 0, none⟩ = some (.int .i64 0) ∧ W.cell? ⟨g, 1, none⟩ = some (.int .i64 0) ∧ W.cell? ⟨g, 2, none⟩ = some (.int .i64 0) ∧ W.cell? ⟨g, 3, none⟩ = some (.int .i64 0) ∧ W.cell? ⟨g, 4, none⟩ = some (.int .i64 0) ∧ W.cell? ⟨g, 5, none⟩ = some (.int .i64 0) := tr_at h1
section
variable {w W V : World} {m P R : Nat} {T S : ByteArray} {b : Bool}
theorem Only1.onlyO (h : Only1 R W V) : OnlyO [R] W V := ⟨h.os, h.tape, h.output, h.size, fun i hi hn => h.block i hi (fun e => hn (by rw [e]; exact List.mem_singleton.2 rfl))⟩
theorem WrB.only (h : WrB w W m P T) (ho : Only1 R W V) (hR : m ≤ R) (hV : VarsAt V) : WrB w V m P T := by
  obtain ⟨O, h1, h2⟩ := h
  exact ⟨O, h1.beside ho.onlyO (fun i hi hm => by have h3 := (h2 i hi).2; rw [List.mem_singleton.1 hm] at h3; omega) hV, h2⟩
/-- What is held from the writing on: the Writer's text, the try, the variables; all that was there at w is as it was. -/
structure LwS (w : World) (m P g : Nat) (T : ByteArray) (t : TrP) (W : World) : Prop where
  wr : WrB w W m P T
  tb : W.heap[g]? = some (.cells (tryA t) 23 (0, 0))
  gl : g < w.heap.size
  ve : VarsAt W
  lo : Below w.heap.size w W
  sz : w.heap.size ≤ m ∧ m ≤ W.heap.size
theorem LwS.later {g : Nat} {t : TrP} (h : LwS w m P g T t W) (hb : Below W.heap.size W V) : LwS w m P g T t V := ⟨h.wr.below hb, later_at hb h.tb, h.gl, h.ve.later hb, below_step h.lo hb, h.sz.1, Nat.le_trans h.sz.2 hb.size⟩
theorem LwS.only {g : Nat} {t : TrP} (h : LwS w m P g T t W) (hr : RdAt W R S b) (ho : Only1 R W V) (hR : m ≤ R) : LwS w m P g T t V := by
  have hv := h.ve.rd hr ho
  refine ⟨h.wr.only ho hR hv, ho.at h.tb (by have := h.gl; have := h.sz.1; omega), h.gl, hv, ?_, h.sz.1, Nat.le_trans h.sz.2 ho.size⟩
  exact Only1.low h.lo ho (Nat.le_trans h.sz.1 hR)
end
set_option maxHeartbeats 8000000 in
set_option maxRecDepth 100000 in
theorem leasewrites_true (C : LeaseOk) (D : LsRW) {w : World} (hV : VarsAt w) (t : TrP) (hin : t.In) (s : ByteArray) : Calls Tryd.prog 3 #[tryV t, .string s] w fun e w' => e = .returned (.bool true) ∧ Below w.heap.size w w' := by
  have HC := Lib.hid C
  have HD := Lib.hid D
  have HIN := Lib.hid hin
  have b0 := (Below.refl w.heap.size w).alloc (Nat.le_refl _) (.cells (tryA t) 23)
  have M0 := Lib.hid (made_at w (.cells (tryA t) 23))
  have HV0 := Lib.hid (hV.later b0)
  have HB0 := Lib.hid b0
  clear C D hin b0 hV
  go_enter Tryd.func3, Tryd.ntmps3
  go_upto_region 1 with fail
  generalize hW0 : (w.alloc (.cells (tryA t) 23)) = W0 at *
  clear hW0
  go_wp2_with fail
  refine (lsawake_true HC.out _).mono ?_
  rintro e w1 ⟨rfl, hb1⟩
  have M1 := Lib.hid (later_at hb1 M0.out)
  have HV1 := Lib.hid (HV0.out.later hb1)
  have HB1 := Lib.hid (below_step HB0.out hb1)
  clear hb1 M0 HV0 HB0
  by_cases h300 : (300 : Int) < (s.size : Int)
  · go_wp2_with fail
    refine (lsawake_true HC.out _).mono ?_
    rintro e w2 ⟨rfl, hb2⟩
    have HB2 := Lib.hid (below_step HB1.out hb2)
    clear hb2
    go_wp2_with fail
    go_ret
    exact ⟨rfl, HB2.out⟩
  have HG := Lib.hid (Array.getElem?_eq_some_iff.1 M1.out).1
  have hal := (Below.refl w1.heap.size w1).alloc (Nat.le_refl _) (.cells #[.pointer none, .int .i64 0] 27)
  have HLW := Lib.hid (show LwS w1 (w1.heap.size + 1) w1.heap.size w.heap.size .empty t (w1.alloc (.cells #[.pointer none, .int .i64 0] 27)) from
    ⟨⟨_, WrV.zero HV1.out, fun i hi => by rw [List.mem_singleton] at hi; subst hi; exact ⟨Nat.le_refl _, Nat.lt_succ_self _⟩⟩, later_at hal M1.out, HG.out, HV1.out.later hal, hal, Nat.le_succ _, by rw [World.size_alloc]; exact Nat.le_refl _⟩)
  clear hal HG
  go_upto_region 4 with fail
  generalize hW3 : (w1.alloc (.cells #[.pointer none, .int .i64 0] 27)) = W3 at *
  clear hW3
  obtain ⟨P, hP⟩ : ∃ P, P = w1.heap.size := ⟨_, rfl⟩
  obtain ⟨m, hm⟩ : ∃ m, m = w1.heap.size + 1 := ⟨_, rfl⟩
  rw [← hm, ← hP] at HLW
  rw [← hP]
  clear hP hm HV1 M1
  obtain ⟨x0, x1, x2, x3, x4, x5⟩ := tr_at HLW.out.tb
  go_wp2_with fail
  refine (HD.out.write t HLW.out.wr HLW.out.lo HLW.out.sz.2 HIN.out (by decide)).mono ?_
  rintro e w4 ⟨rfl, hw4, hb4, hk4⟩
  obtain ⟨X, hX⟩ : ∃ X, X = sixX t := ⟨_, rfl⟩
  rw [sixX_ints, ← hX] at hw4
  have HXS := Lib.hid (show X.size ≤ 126 by rw [hX]; exact sixX_size HIN.out)
  have HXX := Lib.hid hX
  have HL4 := Lib.hid (show LwS w1 w4.heap.size P w.heap.size X t w4 from by
    obtain ⟨O, h1, h2⟩ := hw4
    exact ⟨⟨O, h1, h2⟩, (hb4.block _ HLW.out.gl).trans ((HLW.out.lo.block _ HLW.out.gl).symm.trans HLW.out.tb |> fun h => (HLW.out.lo.block _ HLW.out.gl) ▸ h), HLW.out.gl, h1.vars, hb4, hb4.size, Nat.le_refl _⟩)
  generalize w4.heap.size = m4 at HL4
  clear hw4 hb4 hk4 HLW x0 x1 x2 x3 x4 x5 hX
  have NUMS := Lib.hid (show ∀ m : Int, m ∈ tryL t → ∀ W : World, Calls Tryd.prog 6 #[.int .i64 m] W fun e w' => e = .returned (.string (numX m)) ∧ Below W.heap.size W w' from fun m hm W => by
    have hh : -9223372036854775808 ≤ m ∧ m ≤ 9223372036854775807 := by
      simp only [tryL, List.mem_cons, List.not_mem_nil, or_false] at hm
      rcases hm with rfl | rfl | rfl | rfl | rfl | rfl
      · exact HIN.out.st
      · exact HIN.out.sn
      · exact HIN.out.ms
      · exact HIN.out.wk
      · exact HIN.out.ls
      · exact HIN.out.un
    exact refnum_is m hh.1 hh.2 W)
  obtain ⟨x0, x1, x2, x3, x4, x5⟩ := tr_at HL4.out.tb
  obtain ⟨g, hg⟩ : ∃ g, g = w.heap.size := ⟨_, rfl⟩
  rw [← hg] at x0 x1 x2 x3 x4 x5 HL4
  obtain ⟨S, hS0, hSk, f0, f1, f2, f3, f4, f5, hSe⟩ : ∃ S : World → Prop, S w4.drew ∧ (∀ v v', S v → Below v.heap.size v v' → S v') ∧ (∀ x : HeldW S, x.w.cell? ⟨g, 0, none⟩ = some (.int .i64 t.st)) ∧ (∀ x : HeldW S, x.w.cell? ⟨g, 1, none⟩ = some (.int .i64 t.sn)) ∧ (∀ x : HeldW S, x.w.cell? ⟨g, 2, none⟩ = some (.int .i64 t.ms)) ∧
      (∀ x : HeldW S, x.w.cell? ⟨g, 3, none⟩ = some (.int .i64 t.wk)) ∧ (∀ x : HeldW S, x.w.cell? ⟨g, 4, none⟩ = some (.int .i64 t.ls)) ∧ (∀ x : HeldW S, x.w.cell? ⟨g, 5, none⟩ = some (.int .i64 t.un)) ∧ (∀ v, S v → Below w4.heap.size w4 v) :=
    ⟨HoldS w4 [(⟨g, 0, none⟩, .int .i64 t.st), (⟨g, 1, none⟩, .int .i64 t.sn), (⟨g, 2, none⟩, .int .i64 t.ms), (⟨g, 3, none⟩, .int .i64 t.wk), (⟨g, 4, none⟩, .int .i64 t.ls), (⟨g, 5, none⟩, .int .i64 t.un)] (fun _ => True),
      ⟨cc x0 (cc x1 (cc x2 (cc x3 (cc x4 (cc x5 cn))))), True.intro, (Below.refl _ _).drew⟩, HoldS.keep keepTrue, fun x => x.at_ 0 rfl, fun x => x.at_ 1 rfl, fun x => x.at_ 2 rfl, fun x => x.at_ 3 rfl, fun x => x.at_ 4 rfl, fun x => x.at_ 5 rfl, fun v h => h.2.2⟩
  have HS0 := Lib.hid hS0
  have HSK := Lib.hid hSk
  have HSE := Lib.hid hSe
  clear x0 x1 x2 x3 x4 x5 hS0 hSk hSe
  have c1 : ¬ 9223372036854775807 < (numX t.st).size + (numX t.sn).size := by have := numX_len HIN.out.st.1 HIN.out.st.2; have := numX_len HIN.out.sn.1 HIN.out.sn.2; omega
  have c2 : ¬ 9223372036854775807 < (numX t.st).size + (numX t.sn).size + (numX t.ms).size := by have := numX_len HIN.out.st.1 HIN.out.st.2; have := numX_len HIN.out.sn.1 HIN.out.sn.2; have := numX_len HIN.out.ms.1 HIN.out.ms.2; omega
  have c3 : ¬ 9223372036854775807 < (numX t.st).size + (numX t.sn).size + (numX t.ms).size + (numX t.wk).size := by have := numX_len HIN.out.st.1 HIN.out.st.2; have := numX_len HIN.out.sn.1 HIN.out.sn.2; have := numX_len HIN.out.ms.1 HIN.out.ms.2; have := numX_len HIN.out.wk.1 HIN.out.wk.2; omega
  have c4 : ¬ 9223372036854775807 < (numX t.st).size + (numX t.sn).size + (numX t.ms).size + (numX t.wk).size + (numX t.ls).size := by have := numX_len HIN.out.st.1 HIN.out.st.2; have := numX_len HIN.out.sn.1 HIN.out.sn.2; have := numX_len HIN.out.ms.1 HIN.out.ms.2; have := numX_len HIN.out.wk.1 HIN.out.wk.2; have := numX_len HIN.out.ls.1 HIN.out.ls.2; omega
  have c5 : ¬ 9223372036854775807 < (numX t.st).size + (numX t.sn).size + (numX t.ms).size + (numX t.wk).size + (numX t.ls).size + (numX t.un).size := by have := numX_len HIN.out.st.1 HIN.out.st.2; have := numX_len HIN.out.sn.1 HIN.out.sn.2; have := numX_len HIN.out.ms.1 HIN.out.ms.2; have := numX_len HIN.out.wk.1 HIN.out.wk.2; have := numX_len HIN.out.ls.1 HIN.out.ls.2; have := numX_len HIN.out.un.1 HIN.out.un.2; omega
  go_wp2_with fail
  rw [← hg]
  clear hg
  refine wp_region_kept S (by kernel_rfl) (by kernel_rfl) HS0.out ?_
  intro hne
  repeat (go_big_quiet_step (first | exact rfl | (go_at_call 6; refine kept_of HSK.out (NUMS.out _ (by simp [tryL]) _))))
  refine wpQuiet_nil ?_
  rintro w5 ⟨⟨_, hq5⟩, rfl⟩
  clear f0 f1 f2 f3 f4 f5 hne c1 c2 c3 c4 c5 NUMS
  have HL5 := Lib.hid (HL4.out.later (HSE.out _ hq5))
  clear hq5 HL4 HS0 HSK HSE
  have hX := HXX.out
  unfold sixX at hX
  rw [← hX]
  clear hX
  go_wp2_with fail
  refine (new_is X _).mono ?_
  rintro e w6 ⟨R1, rfl, hR1, hr1, hb6⟩
  have HR1 := Lib.hid hr1
  have HL6 := Lib.hid (HL5.out.later hb6)
  have HM1 := Lib.hid (show m4 ≤ R1 from Nat.le_trans HL5.out.sz.2 hR1)
  clear hr1 hb6 hR1 HL5
  have hx126 := HXS.out
  go_wp2_with fail
  refine (HD.out.read HR1.out HL6.out.ve (by omega)).mono ?_
  rintro e w7 ⟨z, b, S', rfl, hr7, ho7, hsp⟩
  have hal := (Below.refl w7.heap.size w7).alloc (Nat.le_refl _) (.cells (tryA z) 23)
  have HSP := Lib.hid hsp
  have HL7 := Lib.hid ((HL6.out.only HR1.out ho7 HM1.out).later hal)
  have HR7 := Lib.hid (hr7.below hal)
  have MZ := Lib.hid (made_at w7 (.cells (tryA z) 23))
  have HNZ := Lib.hid (show R1 < w7.heap.size from hr7.low)
  clear hr7 ho7 hsp hal HL6 HR1 hx126
  go_upto_region 8 with fail
  generalize hW7 : (w7.alloc (.cells #[.int .i64 z.st, .int .i64 z.sn, .int .i64 z.ms, .int .i64 z.wk, .int .i64 z.ls, .int .i64 z.un] 23)) = W7 at *
  clear hW7
  generalize w7.heap.size = gz at *
  obtain ⟨x0, x1, x2, x3, x4, x5⟩ := tr_at HL7.out.tb
  go_wp2_with fail
  refine (tlike_is t _).mono ?_
  rintro e w8 ⟨rfl, hb8⟩
  have HL8 := Lib.hid (HL7.out.later hb8)
  have HR8 := Lib.hid (HR7.out.below hb8)
  have MZ8 := Lib.hid (later_at hb8 MZ.out)
  have hrt := refright11_is t w8
  obtain ⟨rb, hrb⟩ : ∃ rb, rb = rightT t := ⟨_, rfl⟩
  rw [← hrb] at hrt
  have HRT := Lib.hid hrt
  have HRB := Lib.hid hrb
  clear hb8 x0 x1 x2 x3 x4 x5 HL7 HR7 MZ hrt hrb
  go_wp2_with fail
  refine HRT.out.mono ?_
  rintro e w9 ⟨rfl, hb9⟩
  have HL9 := Lib.hid (HL8.out.later hb9)
  have HR9 := Lib.hid (HR8.out.below hb9)
  have MZ9 := Lib.hid (later_at hb9 MZ8.out)
  clear hb9 HL8 HR8 MZ8 HRT
  go_wp2_with fail
  refine (new_is s _).mono ?_
  rintro e w10 ⟨R2, rfl, hR2, hr2, hb10⟩
  have HR2 := Lib.hid hr2
  have HLa := Lib.hid (HL9.out.later hb10)
  have HRa := Lib.hid (HR9.out.below hb10)
  have MZa := Lib.hid (later_at hb10 MZ9.out)
  have HM2 := Lib.hid (show m4 ≤ R2 from Nat.le_trans HL9.out.sz.2 hR2)
  have HN2 := Lib.hid (show R1 ≠ R2 ∧ gz ≠ R2 from ⟨by have := HR9.out.low; omega, by have := (Array.getElem?_eq_some_iff.1 MZ9.out).1; omega⟩)
  clear hr2 hb10 hR2 HL9 HR9 MZ9
  go_wp2_with fail
  refine (HD.out.read HR2.out HLa.out.ve (by omega)).mono ?_
  rintro e w11 ⟨y, c, S2, rfl, hr11, ho11, hsp2⟩
  have hal := (Below.refl w11.heap.size w11).alloc (Nat.le_refl _) (.cells (tryA y) 23)
  have HSP2 := Lib.hid hsp2
  have HLb := Lib.hid ((HLa.out.only HR2.out ho11 HM2.out).later hal)
  have HR2b := Lib.hid (hr11.below hal)
  have HRb := Lib.hid ((HRa.out.only ho11 HN2.out.1).below hal)
  have MZb := Lib.hid (later_at hal (ho11.at MZa.out HN2.out.2))
  have MYb := Lib.hid (made_at w11 (.cells (tryA y) 23))
  clear hr11 ho11 hsp2 hal HLa HR2 HRa MZa
  go_upto_region 11 with fail
  generalize hW11 : (w11.alloc (.cells #[.int .i64 y.st, .int .i64 y.sn, .int .i64 y.ms, .int .i64 y.wk, .int .i64 y.ls, .int .i64 y.un] 23)) = W11 at *
  clear hW11
  generalize w11.heap.size = gy at *
  have HEQ := Lib.hid (show (b = !rb) ∧ (rb = true → z = t ∧ S' = .empty) ∧ (rb = false → z = noTr) from by
    have hsp := HSP.out
    rw [HXX.out] at hsp
    cases rb with
    | true =>
      obtain ⟨h1, h2, h3⟩ := hsp.yes HRB.out.symm
      exact ⟨h1, (fun _ => ⟨h2, h3⟩), (fun h => by cases h)⟩
    | false =>
      obtain ⟨h1, h2⟩ := hsp.no HRB.out.symm
      exact ⟨h1, (fun h => by cases h), (fun _ => h2)⟩)
  clear HSP HRB HXX HXS
  go_wp2_with fail
  refine HLb.out.wr.str.mono ?_
  rintro e w12 ⟨rfl, hb12⟩
  have HLc := Lib.hid (HLb.out.later hb12)
  have HRc := Lib.hid (HRb.out.below hb12)
  have HR2c := Lib.hid (HR2b.out.below hb12)
  have MZc := Lib.hid (later_at hb12 MZb.out)
  have MYc := Lib.hid (later_at hb12 MYb.out)
  clear hb12 HLb HRb HR2b MZb MYb
  have exx : (X.toList == X.toList) = true := beq_self_eq_true _
  cases rb with
  | true =>
    obtain ⟨hbb, hzt, _⟩ := HEQ.out
    obtain ⟨rfl, rfl⟩ := hzt rfl
    obtain rfl : b = false := hbb
    clear HEQ
    have hdn := rd_done HRc.out
    rw [show (!false && (ByteArray.empty : ByteArray).toList == []) = true from by decide +kernel] at hdn
    have HDN := Lib.hid hdn
    clear hdn
    have e1 : sameT z z = true := sameT_self z
    go_wp2_with fail
    refine HDN.out.mono ?_
    rintro e w13 ⟨rfl, hb13⟩
    have HLd := Lib.hid (HLc.out.later hb13)
    have HR2d := Lib.hid (HR2c.out.below hb13)
    have MZd := Lib.hid (later_at hb13 MZc.out)
    have MYd := Lib.hid (later_at hb13 MYc.out)
    clear hb13 HLc HRc HR2c MZc MYc HDN
    obtain ⟨x0, x1, x2, x3, x4, x5⟩ := tr_at HLd.out.tb
    obtain ⟨z0, z1, z2, z3, z4, z5⟩ := tr_at MZd.out
    go_wp2_with fail
    refine (rd_ok HR2d.out).mono ?_
    rintro e w14 ⟨rfl, hb14⟩
    have HLe := Lib.hid (HLd.out.later hb14)
    have MYe := Lib.hid (later_at hb14 MYd.out)
    have HR2e := Lib.hid (HR2d.out.below hb14)
    clear hb14 HLd MYd x0 x1 x2 x3 x4 x5 z0 z1 z2 z3 z4 z5
    cases c with
    | true =>
      obtain rfl : y = noTr := HSP2.out.1 rfl
      have e0 : eq6 0 0 0 0 0 0 0 0 0 0 0 0 = true := rfl
      go_wp2_with fail
      refine (rd_ok HR2e.out).mono ?_
      rintro e w15 ⟨rfl, hb15⟩
      have HLe := Lib.hid (HLe.out.later hb15)
      obtain ⟨y0, y1, y2, y3, y4, y5⟩ := tr_at0 (later_at hb15 MYe.out)
      clear hb15
      go_wp2_with fail
      go_ret
      exact ⟨by first | rfl | simp, below_step HB1.out HLe.out.lo⟩
    | false =>
      obtain ⟨y0, y1, y2, y3, y4, y5⟩ := tr_at MYe.out
      have hry := (HSP2.out.2.1 rfl).1
      have HRY := Lib.hid (fun W : World => show Calls Tryd.prog 9 #[tryV y] W (fun e w' => e = .returned (.bool true) ∧ Below W.heap.size W w') from by rw [← hry]; exact refright11_is y W)
      clear hry
      go_wp2_with fail
      refine (tlike_is y _).mono ?_
      rintro e w15 ⟨rfl, hb15⟩
      have HLf := Lib.hid (HLe.out.later hb15)
      clear hb15 HLe MYe y0 y1 y2 y3 y4 y5
      go_wp2_with fail
      refine (HRY.out _).mono ?_
      rintro e w16 ⟨rfl, hb16⟩
      have HLg := Lib.hid (HLf.out.later hb16)
      clear hb16 HLf
      go_wp2_with fail
      go_ret
      exact ⟨by first | rfl | simp, below_step HB1.out HLg.out.lo⟩
  | false =>
    obtain ⟨hbb, _, hzt⟩ := HEQ.out
    obtain rfl : z = noTr := hzt rfl
    obtain rfl : b = true := hbb
    clear HEQ
    have hdn := rd_done HRc.out
    rw [show (!true && S'.toList == []) = false from rfl] at hdn
    have HDN := Lib.hid hdn
    clear hdn
    have e1 : eq6 0 0 0 0 0 0 0 0 0 0 0 0 = true := rfl
    go_wp2_with fail
    refine HDN.out.mono ?_
    rintro e w13 ⟨rfl, hb13⟩
    have HLd := Lib.hid (HLc.out.later hb13)
    have HR2d := Lib.hid (HR2c.out.below hb13)
    have MZd := Lib.hid (later_at hb13 MZc.out)
    have MYd := Lib.hid (later_at hb13 MYc.out)
    clear hb13 HLc HRc HR2c MZc MYc HDN
    obtain ⟨x0, x1, x2, x3, x4, x5⟩ := tr_at HLd.out.tb
    obtain ⟨z0, z1, z2, z3, z4, z5⟩ := tr_at0 MZd.out
    go_wp2_with fail
    refine (rd_ok HR2d.out).mono ?_
    rintro e w14 ⟨rfl, hb14⟩
    have HLe := Lib.hid (HLd.out.later hb14)
    have MYe := Lib.hid (later_at hb14 MYd.out)
    have HR2e := Lib.hid (HR2d.out.below hb14)
    clear hb14 HLd MYd x0 x1 x2 x3 x4 x5 z0 z1 z2 z3 z4 z5
    cases c with
    | true =>
      obtain rfl : y = noTr := HSP2.out.1 rfl
      have e0 : eq6 0 0 0 0 0 0 0 0 0 0 0 0 = true := rfl
      go_wp2_with fail
      refine (rd_ok HR2e.out).mono ?_
      rintro e w15 ⟨rfl, hb15⟩
      have HLe := Lib.hid (HLe.out.later hb15)
      obtain ⟨y0, y1, y2, y3, y4, y5⟩ := tr_at0 (later_at hb15 MYe.out)
      clear hb15
      go_wp2_with fail
      go_ret
      exact ⟨by first | rfl | simp, below_step HB1.out HLe.out.lo⟩
    | false =>
      obtain ⟨y0, y1, y2, y3, y4, y5⟩ := tr_at MYe.out
      have hry := (HSP2.out.2.1 rfl).1
      have HRY := Lib.hid (fun W : World => show Calls Tryd.prog 9 #[tryV y] W (fun e w' => e = .returned (.bool true) ∧ Below W.heap.size W w') from by rw [← hry]; exact refright11_is y W)
      clear hry
      go_wp2_with fail
      refine (tlike_is y _).mono ?_
      rintro e w15 ⟨rfl, hb15⟩
      have HLf := Lib.hid (HLe.out.later hb15)
      clear hb15 HLe MYe y0 y1 y2 y3 y4 y5
      go_wp2_with fail
      refine (HRY.out _).mono ?_
      rintro e w16 ⟨rfl, hb16⟩
      have HLg := Lib.hid (HLf.out.later hb16)
      clear hb16 HLf
      go_wp2_with fail
      go_ret
      exact ⟨by first | rfl | simp, below_step HB1.out HLg.out.lo⟩
end Go.Proofs.YtbenehdikigbaaaDoor
