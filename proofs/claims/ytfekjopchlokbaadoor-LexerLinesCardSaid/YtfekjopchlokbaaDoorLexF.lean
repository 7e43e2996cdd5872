/-
  The statement LexerLines, walked over what it asks of the program's lexer. Conditions: what the library's variable errors.errorType holds; awake.
-/
import Derived.Test.YtfekjopchlokbaaDoorLexD
import Derived.Test.YtfekjopchlokbaaDoorLexE
import Derived.Test.YtfekjopchlokbaaDoorLexQ
import Derived.BigQuiet
import Derived.Deep.QuietTactic
namespace Go.Proofs.YtfekjopchlokbaaDoor
open Go.RowKit

theorem below_drewN {n : Nat} {w a : World} (h : Below n w a) (k : Nat) : Below n w (a.drewN k) := ⟨h.os, h.tape, h.output, h.size, h.block⟩

section
variable {w : World}
set_option maxHeartbeats 2000000 in
set_option maxRecDepth 100000 in
theorem lines_true (C : LexOk) (HAW : ∀ w : World, VarL w → Calls Tryd.prog 4 #[] w fun e w' => e = .returned (.bool true) ∧ Below w.heap.size w w') (s : ByteArray) (hV : VarL w) :
    Calls Tryd.prog 3 #[.string s] w fun e w' => e = .returned (.bool true) ∧ Below w.heap.size w w' := by
  have HV := Lib.hid hV
  have HW := Lib.hid HAW
  clear hV HAW
  go_enter Tryd.func3, Tryd.ntmps3
  go_wp2_with fail
  refine (HW.out _ HV.out).mono ?_
  rintro e w1 ⟨rfl, hb1⟩
  have HV1 := Lib.hid (HV.out.later hb1)
  have HB1 := Lib.hid hb1
  clear hb1
  by_cases hs : 3000 < s.size
  · go_wp2_with fail
    refine (HW.out _ HV1.out).mono ?_
    rintro e w2 ⟨rfl, hb2⟩
    have HB2 := Lib.hid (below_step HB1.out hb2)
    clear hb2
    go_wp2_with fail
    go_ret
    exact ⟨rfl, HB2.out⟩
  · go_wp2_with fail
    refine (C.lines s HV1.out (by omega)).mono ?_
    rintro e w2 hp
    have hRF := fun w : World => reflines_is s w
    obtain ⟨r, hr⟩ : ∃ r, r = lexP s := ⟨_, rfl⟩
    rw [← hr] at hp hRF
    have HRF := Lib.hid hRF
    clear hRF
    have HR := Lib.hid hr
    clear hr
    rcases r with ⟨x, p⟩ | L
    · obtain ⟨hb2, A, c, F, rfl, hF⟩ := hp
      have HB2 := Lib.hid (below_step HB1.out hb2)
      have HV2 := Lib.hid (HV1.out.later hb2)
      have HF := Lib.hid hF
      have hx : (x : Int) ≠ 0 := lexP_bad HR.out.symm
      unfold fltV
      clear hb2 hF
      go_wp2_with fail
      refine (HRF.out _).mono ?_
      rintro e w3 ⟨hb3, rfl⟩
      have HB3 := Lib.hid (below_step HB2.out hb3)
      have HV3 := Lib.hid (HV2.out.later hb3)
      have HF3 := Lib.hid (HF.out.later hb3)
      clear hb3
      go_wp2_with fail
      refine (wrong_is C.at_ HV3.out HF3.out x p).mono ?_
      rintro e w4 ⟨rfl, hb4⟩
      have HB4 := Lib.hid (below_step HB3.out hb4)
      clear hb4
      go_wp2_with fail
      go_ret
      exact ⟨by simp, HB4.out⟩
    · obtain ⟨hb2, A, c, rfl, hA⟩ := hp
      have HB2 := Lib.hid (below_step HB1.out hb2)
      have HA := Lib.hid hA
      clear hb2 hA
      go_wp2_with fail
      refine (HRF.out _).mono ?_
      rintro e w3 ⟨hb3, A2, c2, rfl, hA2⟩
      have HB3 := Lib.hid (below_step HB2.out hb3)
      have HA3 := Lib.hid (HA.out.later hb3)
      have HA2 := Lib.hid hA2.lns
      clear hb3 hA2 HA
      have HOK := Lib.hid (lexP_ok HR.out.symm)
      have hL : L.length ≤ 3001 := by have := HOK.out.1; omega
      have nn : ((L.length : Int) != L.length) = false := by simp
      go_wp2_with fail
      go_loopw [51] (fun i wr => ∃ k : Nat, i = .int .i64 k ∧ k ≤ L.length ∧ Below w3.heap.size w3 wr) (fun i _ => L.length - (intOf i).toNat)
      case atStart => exact ⟨0, rfl, Nat.zero_le _, Below.refl _ _⟩
      case round =>
        obtain ⟨k, rfl, hk, hb⟩ := hrel
        have HB := Lib.hid hb
        clear hb
        by_cases hlt : k < L.length
        · obtain ⟨l, hl⟩ : ∃ l, L[k]? = some l := ⟨_, List.getElem?_eq_getElem hlt⟩
          obtain ⟨ad, B, cB, rfl, x0, hB⟩ := (HA3.out.later HB.out).at_ hl
          obtain ⟨ad2, B2, cB2, rfl, y0, hB2⟩ := (HA2.out.later HB.out).at_ hl
          have HWB := Lib.hid hB
          have HWB2 := Lib.hid hB2
          obtain ⟨hll, hlx⟩ := HOK.out.2 l (List.mem_of_getElem? hl)
          have HLX := Lib.hid hlx
          have hln : l.length ≤ 3001 := by omega
          have ln : ((l.length : Int) != l.length) = false := by simp
          clear hl hB hB2 hlx hll
          go_upto_region 12 with fail
          go_region
          go_wp2_with fail
          go_loopw [70] (fun i wx => ∃ j : Nat, i = .int .i64 j ∧ j ≤ l.length ∧ Below wr.heap.size wr wx) (fun i _ => l.length - (intOf i).toNat)
          case atStart => exact ⟨0, rfl, Nat.zero_le _, (Below.refl _ _).drew⟩
          case round =>
            obtain ⟨j, rfl, hj, hb⟩ := hrel
            have HBX := Lib.hid hb
            clear hb
            by_cases hjt : j < l.length
            · obtain ⟨x, hx⟩ : ∃ x, l[j]? = some x := ⟨_, List.getElem?_eq_getElem hjt⟩
              have x1 := cell_later HBX.out x0
              have y1 := cell_later HBX.out y0
              obtain ⟨bd, rfl, x2, x3⟩ := (HWB.out.later HBX.out).at_ hx
              obtain ⟨bd2, rfl, y2, y3⟩ := (HWB2.out.later HBX.out).at_ hx
              obtain ⟨hle, hex⟩ := HLX.out x (List.mem_of_getElem? hx)
              have HLX2 := Lib.hid (show x.t.toList == x.t.toList by simp)
              have pp : ((x.p : Int) != x.p) = false := by simp
              have ab1 : (x.p : Int) ≤ (x.p : Int) + (x.t.size : Int) := by omega
              have ab2 : (x.p : Int) + (x.t.size : Int) ≤ (s.size : Int) := by omega
              have ab3 : (0 : Int) ≤ (x.p : Int) := by omega
              have ab4 : (0 : Int) ≤ (x.p : Int) + (x.t.size : Int) := by omega
              clear hx x0 y0
              go_upto_region 17 with fail
              dsimp only [List.append]
              go_quiet (fail)
              go_wp2_with fail
              go_roundw
              case rel => exact ⟨j + 1, by go_num, by omega, below_drewN HBX.out nq⟩
              case measure => simp [intOf]; omega
            · go_wp2_with fail
              go_roundw
              case rel => exact ⟨k + 1, by go_num, by omega, HB.out.trans (HBX.out.mono HB.out.size)⟩
              case measure => simp [intOf]; omega
        · go_wp2_with fail
          go_ret
          exact ⟨rfl, below_step HB3.out HB.out⟩
end
end Go.Proofs.YtfekjopchlokbaaDoor
