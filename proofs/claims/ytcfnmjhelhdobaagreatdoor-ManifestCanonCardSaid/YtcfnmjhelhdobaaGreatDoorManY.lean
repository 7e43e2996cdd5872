/-
  The statement ManifestCanon, walked over what it asks of the program's manifests. Conditions: what the library's variable errors.errorType holds; awake.
-/
import Derived.Test.YtcfnmjhelhdobaaGreatDoorManW
import Derived.Test.YtcfnmjhelhdobaaGreatDoorPhaseC
import Derived.BigQuiet
import Derived.Deep.QuietTactic
namespace Go.Proofs.YtcfnmjhelhdobaaGreatDoor
open Go.RowKit

/-- Texts are the same where pipelines are. -/
theorem text_same {p q : PiP} (hp : RightPi p) (hq : RightPi q) (h1 : (textP p).size ≤ 600) (h2 : (textP q).size ≤ 600) : ((textP p).toList == (textP q).toList) = sameP p q := by
  rw [ba_same]
  cases hs : sameP p q with
  | true =>
    rw [sameP_iff.1 hs]
    exact decide_eq_true rfl
  | false =>
    refine decide_eq_false (fun e => ?_)
    have h3 := parse_text hp h1
    rw [e, parse_text hq h2] at h3
    injection h3 with h3
    rw [sameP_iff.2 h3.symm] at hs
    cases hs
/-- What the last line's calls are made on. -/
def CnE (A B : Option Addr) (p q : PiP) (W : World) : Prop := VarL W ∧ TksAt W A p.tasks ∧ TksAt W B q.tasks
theorem CnE.keep {A B : Option Addr} {p q : PiP} : ∀ v v', CnE A B p q v → Below v.heap.size v v' → CnE A B p q v' := fun _ _ ⟨a, b, c⟩ h => ⟨a.later h, b.later h, c.later h⟩
section
variable {w : World}
set_option maxHeartbeats 4000000 in
set_option maxRecDepth 100000 in
theorem canon_true (C : ManOk) (HAW : ∀ w : World, VarL w → Calls Tryz.prog 7 #[] w fun e w' => e = .returned (.bool true) ∧ Below w.heap.size w w') (s t : ByteArray) (hs : s.size ≤ 9223372036854775807) (ht : t.size ≤ 9223372036854775807) (hV : VarL w) :
    Calls Tryz.prog 5 #[.string s, .string t] w fun e w' => e = .returned (.bool true) ∧ Below w.heap.size w w' := by
  have HV := Lib.hid hV
  have HW := Lib.hid HAW
  have HS := Lib.hid hs
  have HT := Lib.hid ht
  clear hV HAW hs ht
  go_enter Tryz.func5, Tryz.ntmps5
  go_wp2_with fail
  refine (HW.out _ HV.out).mono ?_
  rintro e w1 ⟨rfl, hb1⟩
  have HV1 := Lib.hid (HV.out.later hb1)
  have HB1 := Lib.hid hb1
  clear hb1
  by_cases hz : (2000 : Int) < wrap64 ((s.size : Int) + (t.size : Int))
  · go_wp2_with fail
    refine (HW.out _ HV1.out).mono ?_
    rintro e w2 ⟨rfl, hb2⟩
    have HB2 := Lib.hid (below_step HB1.out hb2)
    clear hb2
    go_wp2_with fail
    go_ret
    exact ⟨rfl, HB2.out⟩
  · go_wp2_with fail
    refine (C.parse s HV1.out HS.out).mono ?_
    rintro e w2 hp
    obtain ⟨r, hr⟩ : ∃ r, r = parseP s := ⟨_, rfl⟩
    rw [← hr] at hp
    have HR := Lib.hid hr
    clear hr
    rcases r with f | p
    · obtain ⟨hb2, A, c, F, rfl, hF⟩ := hp
      have hb2 := hb2.alloc hb2.size (.cells #[.string ⟨#[]⟩, .slice A (0 : Nat) c] 25)
      have HB2 := Lib.hid (below_step HB1.out hb2)
      have HV2 := Lib.hid (HV1.out.later hb2)
      clear hb2 hF
      unfold fltV pipV
      go_wp2_with fail
      refine (C.parse t HV2.out HT.out).mono ?_
      rintro e w3 hp
      obtain ⟨r3, hr3⟩ : ∃ r3, r3 = parseP t := ⟨_, rfl⟩
      rw [← hr3] at hp
      clear hr3
      rcases r3 with f3 | q
      · obtain ⟨hb3, B, d, F3, rfl, hF3⟩ := hp
        have HB3 := Lib.hid (below_step HB2.out (hb3.alloc hb3.size (.cells #[.string ⟨#[]⟩, .slice B (0 : Nat) d] 25)))
        clear hb3 hF3
        unfold fltV pipV
        go_wp2_with fail
        go_ret
        exact ⟨rfl, HB3.out⟩
      · obtain ⟨hb3, B, d, rfl, hB⟩ := hp
        have HB3 := Lib.hid (below_step HB2.out (hb3.alloc hb3.size (.cells #[.string q.name, .slice B q.tasks.length d] 25)))
        clear hb3 hB
        unfold pipV
        go_wp2_with fail
        go_ret
        exact ⟨rfl, HB3.out⟩
    · obtain ⟨hb2, A, c, rfl, hA⟩ := hp
      have hp := parse_right HR.out.symm
      have HPR := Lib.hid hp
      have hb2 := hb2.alloc hb2.size (.cells #[.string p.name, .slice A p.tasks.length c] 25)
      have HB2 := Lib.hid (below_step HB1.out hb2)
      have HV2 := Lib.hid (HV1.out.later hb2)
      have HA2 := Lib.hid (hA.later ((Below.refl w2.heap.size w2).alloc (Nat.le_refl _) (.cells #[.string p.name, .slice A p.tasks.length c] 25)))
      have HZ2 := Lib.hid (made_at w2 (.cells #[.string p.name, .slice A p.tasks.length c] 25))
      clear hb2 hA hp
      unfold pipV
      go_wp2_with fail
      refine (C.parse t HV2.out HT.out).mono ?_
      rintro e w3 hp
      obtain ⟨r3, hr3⟩ : ∃ r3, r3 = parseP t := ⟨_, rfl⟩
      rw [← hr3] at hp
      have HR3 := Lib.hid hr3
      clear hr3
      rcases r3 with f3 | q
      · obtain ⟨hb3, B, d, F3, rfl, hF3⟩ := hp
        have HB3 := Lib.hid (below_step HB2.out (hb3.alloc hb3.size (.cells #[.string ⟨#[]⟩, .slice B (0 : Nat) d] 25)))
        clear hb3 hF3
        unfold fltV pipV
        go_wp2_with fail
        go_ret
        exact ⟨rfl, HB3.out⟩
      · obtain ⟨hb3, B, d, rfl, hB⟩ := hp
        have HQR := Lib.hid (parse_right HR3.out.symm)
        have b4 := (Below.refl w3.heap.size w3).alloc (Nat.le_refl _) (.cells #[.string q.name, .slice B q.tasks.length d] 25)
        have hb3 := below_step hb3 b4
        have HB3 := Lib.hid (below_step HB2.out hb3)
        have HV3 := Lib.hid (HV2.out.later hb3)
        have HA3 := Lib.hid (HA2.out.later hb3)
        have HC3 := Lib.hid (hB.later b4)
        have HZ3 := Lib.hid (later_at hb3 HZ2.out)
        have HY3 := Lib.hid (made_at w3 (.cells #[.string q.name, .slice B q.tasks.length d] 25))
        have z0 := cellH HZ3.out 0
        have z1 := cellH HZ3.out 1
        simp at z0 z1
        clear hb3 hB b4
        have HPP := Lib.hid (C.print (c := c) HV3.out HA3.out HPR.out)
        unfold pipV at HPP
        obtain ⟨X, hX⟩ : ∃ X, X = if (textP p).size ≤ 600 then textP p else ⟨#[]⟩ := ⟨_, rfl⟩
        obtain ⟨ex, hex⟩ : ∃ ex : Int, ex = if (textP p).size ≤ 600 then 0 else 4 := ⟨_, rfl⟩
        rw [← hX, ← hex] at HPP
        have HX := Lib.hid hX
        have HEX := Lib.hid hex
        clear hX hex
        go_wp2_with fail
        refine HPP.out.mono ?_
        rintro e w4 ⟨rfl, hb4⟩
        have HB4 := Lib.hid (below_step HB3.out hb4)
        have HV4 := Lib.hid (HV3.out.later hb4)
        have HA4 := Lib.hid (HA3.out.later hb4)
        have HC4 := Lib.hid (HC3.out.later hb4)
        have HZ4 := Lib.hid (later_at hb4 HZ3.out)
        have HY4 := Lib.hid (later_at hb4 HY3.out)
        clear hb4 z0 z1 HPP
        have z0 := cellH HY4.out 0
        have z1 := cellH HY4.out 1
        simp at z0 z1
        have HPQ := Lib.hid (C.print (c := d) HV4.out HC4.out HQR.out)
        unfold pipV at HPQ
        obtain ⟨Y, hY⟩ : ∃ Y, Y = if (textP q).size ≤ 600 then textP q else ⟨#[]⟩ := ⟨_, rfl⟩
        obtain ⟨ey, hey⟩ : ∃ ey : Int, ey = if (textP q).size ≤ 600 then 0 else 4 := ⟨_, rfl⟩
        rw [← hY, ← hey] at HPQ
        have HYX := Lib.hid hY
        have HEY := Lib.hid hey
        clear hY hey
        go_wp2_with fail
        refine HPQ.out.mono ?_
        rintro e w5 ⟨rfl, hb5⟩
        have HB5 := Lib.hid (below_step HB4.out hb5)
        have HV5 := Lib.hid (HV4.out.later hb5)
        have HA5 := Lib.hid (HA4.out.later hb5)
        have HC5 := Lib.hid (HC4.out.later hb5)
        have HZ5 := Lib.hid (later_at hb5 HZ4.out)
        have HY5 := Lib.hid (later_at hb5 HY4.out)
        clear hb5 z0 z1 HPQ
        by_cases hx : (textP p).size ≤ 600
        · by_cases hy : (textP q).size ≤ 600
          · obtain rfl : X = textP p := HX.out.trans (if_pos hx)
            obtain rfl : Y = textP q := HYX.out.trans (if_pos hy)
            obtain rfl : ex = 0 := HEX.out.trans (if_pos hx)
            obtain rfl : ey = 0 := HEY.out.trans (if_pos hy)
            have HXY := Lib.hid (text_same HPR.out HQR.out hx hy)
            have HPA := Lib.hid (C.parse (textP p) HV5.out (by omega))
            rw [parse_text HPR.out hx] at HPA
            have HPG := Lib.hid (fun (w : World) (g : Nat) (D : Option Addr) (hv : VarL w) (hd : TksAt w D p.tasks) => C.print (c := g) hv hd HPR.out)
            rw [if_pos hx, if_pos hx] at HPG
            clear HX HYX HEX HEY hx hy
            generalize textP p = X at *
            generalize textP q = Y at *
            go_wp2_with fail
            refine HPA.out.mono ?_
            rintro e w6 ⟨hb6, D, g, rfl, hD⟩
            have b7 := (Below.refl w6.heap.size w6).alloc (Nat.le_refl _) (.cells #[.string p.name, .slice D p.tasks.length g] 25)
            have hb6 := below_step hb6 b7
            have HB6 := Lib.hid (below_step HB5.out hb6)
            have HV6 := Lib.hid (HV5.out.later hb6)
            have HA6 := Lib.hid (HA5.out.later hb6)
            have HC6 := Lib.hid (HC5.out.later hb6)
            have HD6 := Lib.hid (hD.later b7)
            have HZ6 := Lib.hid (later_at hb6 HZ5.out)
            have HY6 := Lib.hid (later_at hb6 HY5.out)
            have z := made_at w6 (.cells #[.string p.name, .slice D p.tasks.length g] 25)
            have z0 := cellH z 0
            have z1 := cellH z 1
            simp at z0 z1
            have HPD := Lib.hid (HPG.out _ g _ HV6.out HD6.out)
            unfold pipV at HPD
            clear hb6 b7 hD z HPA
            unfold pipV
            go_wp2_with fail
            refine HPD.out.mono ?_
            rintro e w7 ⟨rfl, hb7⟩
            have HB7 := Lib.hid (below_step HB6.out hb7)
            have HE7 := Lib.hid (show CnE A B p q w7 from ⟨HV6.out.later hb7, HA6.out.later hb7, HC6.out.later hb7⟩)
            have HZ7 := Lib.hid (later_at hb7 HZ6.out)
            have HY7 := Lib.hid (later_at hb7 HY6.out)
            have y0 := cellH HZ7.out 0
            have y1 := cellH HZ7.out 1
            have y2 := cellH HY7.out 0
            have y3 := cellH HY7.out 1
            simp at y0 y1 y2 y3
            have HK := Lib.hid (show (HoldS w7 [(⟨w2.heap.size, 0, none⟩, .string p.name), (⟨w2.heap.size, 1, none⟩, .slice A p.tasks.length c), (⟨w3.heap.size, 0, none⟩, .string q.name), (⟨w3.heap.size, 1, none⟩, .slice B q.tasks.length d)] (CnE A B p q)) w7.drew from ⟨cc y0 (cc y1 (cc y2 (cc y3 cn))), CnE.keep _ _ HE7.out (Below.refl _ _).drew, (Below.refl _ _).drew⟩)
            have f0 : ∀ x : HeldW (HoldS w7 [(⟨w2.heap.size, 0, none⟩, .string p.name), (⟨w2.heap.size, 1, none⟩, .slice A p.tasks.length c), (⟨w3.heap.size, 0, none⟩, .string q.name), (⟨w3.heap.size, 1, none⟩, .slice B q.tasks.length d)] (CnE A B p q)), x.w.cell? ⟨w2.heap.size, 0, none⟩ = some (.string p.name) := fun x => x.at_ 0 rfl
            have f1 : ∀ x : HeldW (HoldS w7 [(⟨w2.heap.size, 0, none⟩, .string p.name), (⟨w2.heap.size, 1, none⟩, .slice A p.tasks.length c), (⟨w3.heap.size, 0, none⟩, .string q.name), (⟨w3.heap.size, 1, none⟩, .slice B q.tasks.length d)] (CnE A B p q)), x.w.cell? ⟨w2.heap.size, 1, none⟩ = some (.slice A p.tasks.length c) := fun x => x.at_ 1 rfl
            have f2 : ∀ x : HeldW (HoldS w7 [(⟨w2.heap.size, 0, none⟩, .string p.name), (⟨w2.heap.size, 1, none⟩, .slice A p.tasks.length c), (⟨w3.heap.size, 0, none⟩, .string q.name), (⟨w3.heap.size, 1, none⟩, .slice B q.tasks.length d)] (CnE A B p q)), x.w.cell? ⟨w3.heap.size, 0, none⟩ = some (.string q.name) := fun x => x.at_ 2 rfl
            have f3 : ∀ x : HeldW (HoldS w7 [(⟨w2.heap.size, 0, none⟩, .string p.name), (⟨w2.heap.size, 1, none⟩, .slice A p.tasks.length c), (⟨w3.heap.size, 0, none⟩, .string q.name), (⟨w3.heap.size, 1, none⟩, .slice B q.tasks.length d)] (CnE A B p q)), x.w.cell? ⟨w3.heap.size, 1, none⟩ = some (.slice B q.tasks.length d) := fun x => x.at_ 3 rfl
            have HSP := Lib.hid (fun (W : World) (h : CnE A B p q W) => C.same (c := c) (d := d) h.1 h.2.1 h.2.2 HPR.out HQR.out)
            have HSR := Lib.hid (fun (W : World) (h : CnE A B p q W) => refsame_ok (c := c) (d := d) h.2.1 h.2.2 HPR.out HQR.out)
            unfold pipV at HSP HSR
            obtain ⟨b, hb⟩ : ∃ b, b = sameP p q := ⟨_, rfl⟩
            rw [← hb] at HSP HSR HXY
            have xx : (X.toList == X.toList) = true := by simp
            have xy := HXY.out
            have bb : (b == b) = true := by simp
            clear hb hb7 HXY HE7 HZ7 HY7 HZ6 HY6 HA6 HC6 HD6 HV6 HPG HPD y0 y1 y2 y3 z0 z1
            go_upto_region 13 with fail
            refine wp_region_kept _ (by kernel_rfl) (by kernel_rfl) HK.out ?_
            intro hne
            repeat (go_big_quiet_step (first | exact rfl | exact xx | (go_at_call 14; rename_i xw; refine kept_of (HoldS.keep CnE.keep) (HSP.out _ xw.ok.2.1)) | (go_at_call 11; rename_i xw; refine kept_of (HoldS.keep CnE.keep) (HSR.out _ xw.ok.2.1))))
            refine wpQuiet_nil ?_
            rintro w8 ⟨⟨_, hq⟩, rfl⟩
            obtain ⟨_, _, h8⟩ := hq
            clear f0 f1 f2 f3 hne
            have HB8 := Lib.hid (below_step HB7.out h8)
            clear h8
            go_wp2_with fail
            go_ret
            exact ⟨by first | rfl | simp, HB8.out⟩
          · obtain rfl : ex = 0 := HEX.out.trans (if_pos hx)
            obtain rfl : ey = 4 := HEY.out.trans (if_neg hy)
            go_wp2_with fail
            go_ret
            exact ⟨rfl, HB5.out⟩
        · obtain rfl : ex = 4 := HEX.out.trans (if_neg hx)
          go_wp2_with fail
          go_ret
          exact ⟨rfl, HB5.out⟩
end
end Go.Proofs.YtcfnmjhelhdobaaGreatDoor
