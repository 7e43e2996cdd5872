/-
  GateWrites, walked, over what the program's gate, its Write and Read do. Conditions: what the library's variables hold.
-/
import Derived.Test.YthmjeibanofliaaDoorGtV
import Derived.Test.YthmjeibanofliaaDoorGtI
namespace Go.Proofs.YthmjeibanofliaaDoor
open Go.RowKit

section
variable {w W V : World} {m P R g : Nat} {T S : ByteArray} {b : Bool} {A : Option Addr} {c : Nat} {yes : List Int} {no : Bool}
theorem Only1.onlyO12 (h : Only1 R W V) : OnlyO [R] W V := ⟨h.os, h.tape, h.output, h.size, fun i hi hn => h.block i hi (fun e => hn (by rw [e]; exact List.mem_singleton.2 rfl))⟩
theorem WrB.only12 (h : WrB w W m P T) (ho : Only1 R W V) (hR : m ≤ R) (hV : VarsAt V) : WrB w V m P T := by
  obtain ⟨O, h1, h2⟩ := h
  exact ⟨O, h1.beside ho.onlyO12 (fun i hi hm => by have h3 := (h2 i hi).2; rw [List.mem_singleton.1 hm] at h3; omega) hV, h2⟩
theorem VtAt.only (h : VtAt w g A c yes no) (hb : Below w.heap.size w W) (ho : Only1 R W V) (hR : w.heap.size ≤ R) : VtAt V g A c yes no := h.later (Only1.low hb ho hR)
/-- What is held from the writing on: the Writer's text, the votes, the variables; all that was there at w is as it was. -/
structure GwS (w : World) (m P g : Nat) (T : ByteArray) (A : Option Addr) (c : Nat) (yes : List Int) (no : Bool) (W : World) : Prop where
  wr : WrB w W m P T
  vt : VtAt w g A c yes no
  ve : VarsAt W
  lo : Below w.heap.size w W
  sz : w.heap.size ≤ m ∧ m ≤ W.heap.size
theorem GwS.at_ (h : GwS w m P g T A c yes no W) : VtAt W g A c yes no := h.vt.later h.lo
theorem GwS.later (h : GwS w m P g T A c yes no W) (hb : Below W.heap.size W V) : GwS w m P g T A c yes no V := ⟨h.wr.below hb, h.vt, h.ve.later hb, below_step h.lo hb, h.sz.1, Nat.le_trans h.sz.2 hb.size⟩
theorem GwS.only (h : GwS w m P g T A c yes no W) (hr : RdAt W R S b) (ho : Only1 R W V) (hR : m ≤ R) : GwS w m P g T A c yes no V := by
  have hv := h.ve.rd hr ho
  exact ⟨h.wr.only12 ho hR hv, h.vt, hv, Only1.low h.lo ho (Nat.le_trans h.sz.1 hR), h.sz.1, Nat.le_trans h.sz.2 ho.size⟩
end
theorem intsX_one12 (n : Int) : intsX .empty [n] = numX n := by
  apply bl_inj
  rw [intsX_bl, List.flatMap_cons, List.flatMap_nil, List.append_nil]
  rfl
theorem intsX_snoc (l : List Int) (t : ByteArray) (n : Int) : intsX t (l ++ [n]) = intsX t l ++ numX n := by
  unfold intsX
  rw [List.foldl_append]
  rfl
set_option maxHeartbeats 8000000 in
set_option maxRecDepth 100000 in
theorem gatewrites_true (C : GateOk) (D : GtRW) {w : World} (hV : VarsAt w) {A : Option Addr} {c : Nat} {yes : List Int} (no : Bool) (hA : IntsC w A c yes) (hn : yes.length ≤ 9223372036854775807) (hin : ∀ z ∈ yes, -9223372036854775808 ≤ z ∧ z ≤ 9223372036854775807) (s : ByteArray) :
    Calls Tryd.prog 3 #[.agg #[.slice A yes.length c, .bool no], .string s] w fun e w' => e = .returned (.bool true) ∧ Below w.heap.size w w' := by
  have HC := Lib.hid C
  have HD := Lib.hid D
  have HIN := Lib.hid hin
  have b0 := (Below.refl w.heap.size w).alloc (Nat.le_refl _) (.cells #[.slice A yes.length c, .bool no] 24)
  have M0 := Lib.hid (VtAt.made hA no)
  have HV0 := Lib.hid (hV.later b0)
  have HB0 := Lib.hid b0
  clear C D hin b0 hV hA
  go_enter Tryd.func3, Tryd.ntmps3
  go_upto_region 1 with fail
  generalize hW0 : (w.alloc (.cells #[.slice A yes.length c, .bool no] 24)) = W0 at *
  clear hW0
  go_wp2_with fail
  refine (gtawake_true HC.out _).mono ?_
  rintro e w1 ⟨rfl, hb1⟩
  have M1 := Lib.hid (M0.out.later hb1)
  have HV1 := Lib.hid (HV0.out.later hb1)
  have HB1 := Lib.hid (below_step HB0.out hb1)
  clear hb1 M0 HV0 HB0
  have x0 : w1.cell? ⟨w.heap.size, 0, none⟩ = some (.slice A yes.length c) := M1.out.cells.1
  by_cases h50 : (50 : Int) < (yes.length : Int)
  · go_wp2_with fail
    refine (gtawake_true HC.out _).mono ?_
    rintro e w2 ⟨rfl, hb2⟩
    have HB2 := Lib.hid (below_step HB1.out hb2)
    clear hb2 x0
    go_wp2_with fail
    go_ret
    exact ⟨rfl, HB2.out⟩
  by_cases h300 : (300 : Int) < (s.size : Int)
  · go_wp2_with fail
    refine (gtawake_true HC.out _).mono ?_
    rintro e w2 ⟨rfl, hb2⟩
    have HB2 := Lib.hid (below_step HB1.out hb2)
    clear hb2 x0
    go_wp2_with fail
    go_ret
    exact ⟨rfl, HB2.out⟩
  have hl50 : yes.length ≤ 50 := by omega
  have hal := (Below.refl w1.heap.size w1).alloc (Nat.le_refl _) (.cells #[.pointer none, .int .i64 0] 28)
  have HLW := Lib.hid (show GwS w1 (w1.heap.size + 1) w1.heap.size w.heap.size .empty A c yes no (w1.alloc (.cells #[.pointer none, .int .i64 0] 28)) from
    ⟨⟨_, WrV.zero HV1.out, fun i hi => by rw [List.mem_singleton] at hi; subst hi; exact ⟨Nat.le_refl _, Nat.lt_succ_self _⟩⟩, M1.out, HV1.out.later hal, hal, Nat.le_succ _, by rw [World.size_alloc]; exact Nat.le_refl _⟩)
  clear hal
  go_upto_region 4 with fail
  generalize hW3 : (w1.alloc (.cells #[.pointer none, .int .i64 0] 28)) = W3 at *
  clear hW3 x0
  obtain ⟨P, hP⟩ : ∃ P, P = w1.heap.size := ⟨_, rfl⟩
  obtain ⟨m, hm⟩ : ∃ m, m = w1.heap.size + 1 := ⟨_, rfl⟩
  rw [← hm, ← hP] at HLW
  rw [← hP]
  clear hP hm HV1 M1
  have x0 := HLW.out.at_.cells.1
  have x1 := HLW.out.at_.cells.2
  go_wp2_with fail
  refine (HD.out.write no HLW.out.wr HLW.out.lo HLW.out.sz.2 HLW.out.vt.2 HIN.out (by omega) (by decide)).mono ?_
  rintro e w4 ⟨rfl, hw4, hb4, hk4⟩
  obtain ⟨X, hX⟩ : ∃ X, X = votX yes no := ⟨_, rfl⟩
  have hX2 : intsX .empty (votL yes no) = X := hX.symm
  rw [hX2] at hw4
  have HXX := Lib.hid hX
  have HL4 := Lib.hid (show GwS w1 w4.heap.size P w.heap.size X A c yes no w4 from by
    obtain ⟨O, h1, h2⟩ := hw4
    exact ⟨⟨O, h1, h2⟩, HLW.out.vt, h1.vars, hb4, hb4.size, Nat.le_refl _⟩)
  generalize w4.heap.size = m4 at HL4
  clear hw4 hb4 hk4 HLW x0 x1 hX hX2
  have x0 := HL4.out.at_.cells.1
  go_wp2_with fail
  refine (refnum_is (yes.length : Int) (by omega) (by omega) _).mono ?_
  rintro e w5 ⟨rfl, hb5⟩
  have HL5 := Lib.hid (HL4.out.later hb5)
  clear hb5 x0 HL4
  have x0 := HL5.out.at_.cells.1
  go_wp2_with fail
  clear x0
  go_loopw [6, 37] (fun v i wr => ∃ k : Nat, v = .string (intsX .empty ((yes.length : Int) :: yes.take k)) ∧ i = .int .i64 k ∧ k ≤ yes.length ∧ Hid (GwS w1 m4 P w.heap.size X A c yes no wr)) (fun _ i _ => yes.length - (intOf i).toNat)
  case atStart => exact ⟨0, by rw [List.take_zero, intsX_one12], rfl, Nat.zero_le _, HL5⟩
  case round =>
    obtain ⟨k, rfl, rfl, hk, HL⟩ := hrel
    obtain ⟨Y, hY⟩ : ∃ Y, Y = intsX .empty ((yes.length : Int) :: yes.take k) := ⟨_, rfl⟩
    rw [← hY]
    have hys : Y.size ≤ 2000 := by
      have h1 := intsX_size ((yes.length : Int) :: yes.take k) .empty (fun z hz => by
        rcases List.mem_cons.1 hz with rfl | h2
        · omega
        · exact HIN.out z (List.mem_of_mem_take h2))
      rw [← hY, List.length_cons, List.length_take] at h1
      have : (ByteArray.empty).size = 0 := rfl
      omega
    have HY := Lib.hid hY
    clear hY
    by_cases hlt : k < yes.length
    · obtain ⟨ad, x, rfl, hx, h0⟩ := HL.out.at_.2.get hlt
      have hc1 := HL.out.vt.2.cap
      have hkl : (k : Int) < (yes.length : Int) := by omega
      have hkc : (k : Int) < (c : Int) := by omega
      have hxr := HIN.out x (List.mem_of_getElem? hx)
      have HS := Lib.hid (show Y ++ numX x = intsX .empty ((yes.length : Int) :: yes.take (k + 1)) from by
        rw [HY.out, ← intsX_snoc, List.take_add_one, hx]
        rfl)
      have hcat : ¬ 9223372036854775807 < Y.size + (numX x).size := by have := numX_len hxr.1 hxr.2; omega
      clear hx
      go_wp2_with fail
      refine (refnum_is x hxr.1 hxr.2 _).mono ?_
      rintro e w6 ⟨rfl, hb6⟩
      have HL6 := Lib.hid (HL.out.later hb6)
      clear hb6 h0
      go_wp2_with fail
      go_roundw
      case rel => exact ⟨k + 1, by rw [HS.out], by go_num, by omega, HL6⟩
      case measure => simp [intOf]; omega
    · obtain rfl : k = yes.length := by omega
      have hlk : ¬ (yes.length : Int) < (yes.length : Int) := by omega
      have HYY := Lib.hid (show Y = intsX .empty ((yes.length : Int) :: yes) from by rw [HY.out, List.take_length])
      clear HY
      have x1 := HL.out.at_.cells.2
      go_upto_if 47 with fail
      clear hlk x1
      go_cut [6] (fun v wx => v = .string X ∧ Hid (GwS w1 m4 P w.heap.size X A c yes no wx))
      case first =>
        cases no with
        | true =>
          have HS := Lib.hid (show Y ++ numX 1 = X from by rw [HXX.out, HYY.out, ← intsX_snoc]; rfl)
          have hcat : ¬ 9223372036854775807 < Y.size + (numX 1).size := by have := numX_len (n := 1) (by omega) (by omega); omega
          go_wp2_with fail
          refine (refnum_is 1 (by omega) (by omega) _).mono ?_
          rintro e w6 ⟨rfl, hb6⟩
          have HL6 := Lib.hid (HL.out.later hb6)
          clear hb6
          go_wp2_with fail
          go_meet
          exact ⟨by rw [HS.out], HL6⟩
        | false =>
          have HS := Lib.hid (show Y ++ numX 0 = X from by rw [HXX.out, HYY.out, ← intsX_snoc]; rfl)
          have hcat : ¬ 9223372036854775807 < Y.size + (numX 0).size := by have := numX_len (n := 0) (by omega) (by omega); omega
          go_wp2_with fail
          refine (refnum_is 0 (by omega) (by omega) _).mono ?_
          rintro e w6 ⟨rfl, hb6⟩
          have HL6 := Lib.hid (HL.out.later hb6)
          clear hb6
          go_wp2_with fail
          go_meet
          exact ⟨by rw [HS.out], HL6⟩
      case rest =>
        obtain ⟨rfl, HL6⟩ := hcut
        have hxs : X.size ≤ 2000 := by
          have h1 := intsX_size (votL yes no) .empty (fun z hz => by
            unfold votL at hz
            rcases List.mem_cons.1 hz with rfl | h2
            · omega
            · rcases List.mem_append.1 h2 with h3 | h3
              · exact HIN.out z h3
              · have : z = 0 ∨ z = 1 := by cases no <;> simp_all
                omega)
          have h2 : (votL yes no).length = yes.length + 2 := by unfold votL; simp
          have h3 : X.size ≤ (ByteArray.empty).size + 21 * (votL yes no).length := by rw [HXX.out]; exact h1
          have : (ByteArray.empty).size = 0 := rfl
          omega
        clear HYY HL hys hk hlt
        go_wp2_with fail
        refine (new_is X _).mono ?_
        rintro e w7 ⟨R1, rfl, hR1, hr1, hb7⟩
        have HR1 := Lib.hid hr1
        have HL7 := Lib.hid (HL6.out.later hb7)
        have HM1 := Lib.hid (show m4 ≤ R1 from Nat.le_trans HL6.out.sz.2 hR1)
        clear hr1 hb7 hR1 HL6
        go_wp2_with fail
        refine (HD.out.read HR1.out HL7.out.ve (by omega)).mono ?_
        rintro e w8 ⟨B, d, ys, n, b, S', rfl, hi8, hr8, ho8, hsp⟩
        have hal := (Below.refl w8.heap.size w8).alloc (Nat.le_refl _) (.cells #[.slice B ys.length d, .bool n] 24)
        have HSP := Lib.hid hsp
        have HL8 := Lib.hid ((HL7.out.only HR1.out ho8 HM1.out).later hal)
        have HR8 := Lib.hid (hr8.below hal)
        have HZ8 := Lib.hid (VtAt.made hi8 n)
        have hy12 := hsp.len
        clear hi8 hr8 ho8 hsp hal HL7 HR1
        go_upto_region 16 with fail
        generalize hW8 : (w8.alloc (.cells #[.slice B ys.length d, .bool n] 24)) = W8 at *
        clear hW8
        generalize w8.heap.size = gz at *
        have x0 := HL8.out.at_.cells.1
        have hrt := refright12_is HL8.out.at_.2 (by omega)
        obtain ⟨rb, hrb⟩ : ∃ rb, rb = rightV yes := ⟨_, rfl⟩
        rw [← hrb] at hrt
        have HRT := Lib.hid hrt
        have HRB := Lib.hid hrb
        have HGR := Lib.hid (fun (W : World) (h : IntsC W A c yes) => show Calls Tryd.prog 11 #[.agg #[.slice A yes.length c, .bool no]] W (fun e w' => e = .returned (.bool rb) ∧ Below W.heap.size W w') from by rw [hrb]; exact HC.out.right no h (by omega))
        clear hrt hrb
        go_wp2_with fail
        refine HRT.out.mono ?_
        rintro e w9 ⟨rfl, hb9⟩
        have HL9 := Lib.hid (HL8.out.later hb9)
        have HR9 := Lib.hid (HR8.out.below hb9)
        have HZ9 := Lib.hid (HZ8.out.later hb9)
        clear hb9 x0 HL8 HR8 HZ8 HRT
        go_wp2_with fail
        refine (new_is s _).mono ?_
        rintro e w10 ⟨R2, rfl, hR2, hr2, hb10⟩
        have HR2 := Lib.hid hr2
        have HLa := Lib.hid (HL9.out.later hb10)
        have HRa := Lib.hid (HR9.out.below hb10)
        have HZW := Lib.hid (And.intro hb10 hR2)
        have HM2 := Lib.hid (show m4 ≤ R2 from Nat.le_trans HL9.out.sz.2 hR2)
        have HN2 := Lib.hid (show R1 ≠ R2 from by have := HR9.out.low; omega)
        clear hr2 hb10 hR2 HL9 HR9
        go_wp2_with fail
        refine (HD.out.read HR2.out HLa.out.ve (by omega)).mono ?_
        rintro e w11 ⟨B2, d2, zs, n2, b2, S2, rfl, hi11, hr11, ho11, hsp2⟩
        have hal := (Below.refl w11.heap.size w11).alloc (Nat.le_refl _) (.cells #[.slice B2 zs.length d2, .bool n2] 24)
        have HSP2 := Lib.hid hsp2
        have HLb := Lib.hid ((HLa.out.only HR2.out ho11 HM2.out).later hal)
        have HR2b := Lib.hid (hr11.below hal)
        have HRb := Lib.hid ((HRa.out.only ho11 HN2.out).below hal)
        have HZb := Lib.hid ((HZ9.out.only HZW.out.1 ho11 HZW.out.2).later hal)
        have HYb := Lib.hid (VtAt.made hi11 n2)
        have hz12 := hsp2.len
        clear hi11 hr11 ho11 hsp2 hal HLa HR2 HRa HZ9 HZW HM2 HN2 HM1
        go_upto_region 19 with fail
        generalize hW11 : (w11.alloc (.cells #[.slice B2 zs.length d2, .bool n2] 24)) = W11 at *
        clear hW11
        generalize w11.heap.size = gy at *
        dsimp only [List.append]
        have HEQ := Lib.hid (show (b = !rb) ∧ (rb = true → ys = yes ∧ n = no ∧ S' = .empty) ∧ (rb = false → ys = [] ∧ n = false) from by
          have hsp := HSP.out
          rw [HXX.out] at hsp
          cases rb with
          | true =>
            obtain ⟨h1, h2, h3, h4⟩ := hsp.yes HRB.out.symm
            exact ⟨h1, (fun _ => ⟨h2, h3, h4⟩), (fun h => by cases h)⟩
          | false =>
            obtain ⟨h1, h2, h3⟩ := hsp.no HRB.out.symm
            exact ⟨h1, (fun h => by cases h), (fun _ => ⟨h2, h3⟩)⟩)
        clear HSP HRB HXX
        go_wp2_with fail
        refine HLb.out.wr.str.mono ?_
        rintro e w12 ⟨rfl, hb12⟩
        have HLc := Lib.hid (HLb.out.later hb12)
        have HRc := Lib.hid (HRb.out.below hb12)
        have HR2c := Lib.hid (HR2b.out.below hb12)
        have HZc := Lib.hid (HZb.out.later hb12)
        have HYc := Lib.hid (HYb.out.later hb12)
        clear hb12 HLb HRb HR2b HZb HYb
        have exx : (X.toList == X.toList) = true := beq_self_eq_true _
        have x0 := HLc.out.at_.cells.1
        have x1 := HLc.out.at_.cells.2
        go_wp2_with fail
        refine (HGR.out _ HLc.out.at_.2).mono ?_
        rintro e w13 ⟨rfl, hb13⟩
        have HLd := Lib.hid (HLc.out.later hb13)
        have HRd := Lib.hid (HRc.out.below hb13)
        have HR2d := Lib.hid (HR2c.out.below hb13)
        have HZd := Lib.hid (HZc.out.later hb13)
        have HYd := Lib.hid (HYc.out.later hb13)
        clear hb13 HLc HRc HR2c HZc HYc HGR x0 x1
        cases rb with
        | true =>
          obtain ⟨hbb, hzt, hun⟩ := HEQ.out
          obtain ⟨e1, e2, e3⟩ := hzt rfl
          clear hun hzt
          obtain rfl : b = false := hbb
          subst e1 e2 e3
          clear HEQ
          have hdn := rd_done HRd.out
          rw [show (!false && (ByteArray.empty : ByteArray).toList == []) = true from by decide +kernel] at hdn
          have HDN := Lib.hid hdn
          clear hdn
          have x0 := HLd.out.at_.cells.1
          have x1 := HLd.out.at_.cells.2
          go_wp2_with fail
          refine HDN.out.mono ?_
          rintro e w14 ⟨rfl, hb14⟩
          have HLe := Lib.hid (HLd.out.later hb14)
          have HR2e := Lib.hid (HR2d.out.below hb14)
          have HZe := Lib.hid (HZd.out.later hb14)
          have HYe := Lib.hid (HYd.out.later hb14)
          clear hb14 HLd HRd HR2d HZd HYd HDN x0 x1
          have x0 := HLe.out.at_.cells.1
          have z0 := HZe.out.cells.1
          go_wp2_with fail
          refine (gsame_is HZe.out.2 HLe.out.at_.2 (by omega)).mono ?_
          rintro e w15 ⟨rfl, hb15⟩
          have HLf := Lib.hid (HLe.out.later hb15)
          have HR2f := Lib.hid (HR2e.out.below hb15)
          have HZf := Lib.hid (HZe.out.later hb15)
          have HYf := Lib.hid (HYe.out.later hb15)
          clear hb15 HLe HR2e HZe HYe x0 z0
          have x1 := HLf.out.at_.cells.2
          have z1 := HZf.out.cells.2
          have enn : (n == n) = true := beq_self_eq_true n
          go_wp2_with fail
          refine (rd_ok HR2f.out).mono ?_
          rintro e w20 ⟨rfl, hb20⟩
          have HLt := Lib.hid (HLf.out.later hb20)
          have HR2t := Lib.hid (HR2f.out.below hb20)
          have HYt := Lib.hid (HYf.out.later hb20)
          clear hb20 HLf HR2f HYf x1 z1 enn
          cases b2 with
          | true =>
            obtain ⟨rfl, rfl⟩ := HSP2.out.1 rfl
            go_wp2_with fail
            refine (rd_ok HR2t.out).mono ?_
            rintro e w21 ⟨rfl, hb21⟩
            have HLu := Lib.hid (HLt.out.later hb21)
            have y0 := (HYt.out.later hb21).cells.1
            have y1 := (HYt.out.later hb21).cells.2
            simp only [List.length_nil] at y0
            clear hb21
            go_wp2_with fail
            go_ret
            exact ⟨by first | rfl | simp, below_step HB1.out HLu.out.lo⟩
          | false =>
            have hry := (HSP2.out.2.1 rfl).1
            have HRY := Lib.hid (show Calls Tryd.prog 11 #[.agg #[.slice B2 zs.length d2, .bool n2]] w20 (fun e w' => e = .returned (.bool true) ∧ Below w20.heap.size w20 w') from by rw [← hry]; exact HC.out.right n2 HYt.out.2 (by omega))
            have y0 := HYt.out.cells.1
            have y1 := HYt.out.cells.2
            clear hry
            go_wp2_with fail
            refine HRY.out.mono ?_
            rintro e w21 ⟨rfl, hb21⟩
            have HLu := Lib.hid (HLt.out.later hb21)
            clear hb21 y0 y1 HRY
            go_wp2_with fail
            go_ret
            exact ⟨by first | rfl | simp, below_step HB1.out HLu.out.lo⟩
        | false =>
          obtain ⟨hbb, hun, hzt⟩ := HEQ.out
          obtain ⟨e1, e2⟩ := hzt rfl
          clear hun hzt
          subst e1 e2
          obtain rfl : b = true := hbb
          clear HEQ
          have hdn := rd_done HRd.out
          rw [show (!true && S'.toList == []) = false from rfl] at hdn
          have HDN := Lib.hid hdn
          clear hdn
          have x0 := HLd.out.at_.cells.1
          have x1 := HLd.out.at_.cells.2
          go_wp2_with fail
          refine HDN.out.mono ?_
          rintro e w14 ⟨rfl, hb14⟩
          have HLe := Lib.hid (HLd.out.later hb14)
          have HR2e := Lib.hid (HR2d.out.below hb14)
          have HZe := Lib.hid (HZd.out.later hb14)
          have HYe := Lib.hid (HYd.out.later hb14)
          clear hb14 HLd HRd HR2d HZd HYd HDN x0 x1
          have z0 := HZe.out.cells.1
          have z1 := HZe.out.cells.2
          simp only [List.length_nil] at z0
          go_wp2_with fail
          refine (rd_ok HR2e.out).mono ?_
          rintro e w20 ⟨rfl, hb20⟩
          have HLt := Lib.hid (HLe.out.later hb20)
          have HR2t := Lib.hid (HR2e.out.below hb20)
          have HYt := Lib.hid (HYe.out.later hb20)
          clear hb20 HLe HR2e HYe z0 z1
          cases b2 with
          | true =>
            obtain ⟨rfl, rfl⟩ := HSP2.out.1 rfl
            go_wp2_with fail
            refine (rd_ok HR2t.out).mono ?_
            rintro e w21 ⟨rfl, hb21⟩
            have HLu := Lib.hid (HLt.out.later hb21)
            have y0 := (HYt.out.later hb21).cells.1
            have y1 := (HYt.out.later hb21).cells.2
            simp only [List.length_nil] at y0
            clear hb21
            go_wp2_with fail
            go_ret
            exact ⟨by first | rfl | simp, below_step HB1.out HLu.out.lo⟩
          | false =>
            have hry := (HSP2.out.2.1 rfl).1
            have HRY := Lib.hid (show Calls Tryd.prog 11 #[.agg #[.slice B2 zs.length d2, .bool n2]] w20 (fun e w' => e = .returned (.bool true) ∧ Below w20.heap.size w20 w') from by rw [← hry]; exact HC.out.right n2 HYt.out.2 (by omega))
            have y0 := HYt.out.cells.1
            have y1 := HYt.out.cells.2
            clear hry
            go_wp2_with fail
            refine HRY.out.mono ?_
            rintro e w21 ⟨rfl, hb21⟩
            have HLu := Lib.hid (HLt.out.later hb21)
            clear hb21 y0 y1 HRY
            go_wp2_with fail
            go_ret
            exact ⟨by first | rfl | simp, below_step HB1.out HLu.out.lo⟩
end Go.Proofs.YthmjeibanofliaaDoor
