/-
  The statement ManifestFirst, walked over what it asks of the program's manifests. Conditions: texts of a million bytes at most; what the library's variable errors.errorType holds; awake.
-/
import Derived.Test.YtcfnmjhelhdobaaGreatDoorManW
namespace Go.Proofs.YtcfnmjhelhdobaaGreatDoor
open Go.RowKit

theorem fine_bl {m : ByteArray} (h : ∀ j, j < m.size → byL m j = 10 ∨ (32 ≤ byL m j ∧ byL m j ≤ 126)) : ∀ b ∈ bl m, b.toNat = 10 ∨ (32 ≤ b.toNat ∧ b.toNat ≤ 126) := by
  intro b hb
  obtain ⟨j, hj, rfl⟩ := List.mem_iff_getElem.1 hb
  have h2 := h j (by rw [← bl_len]; exact hj)
  unfold byL at h2
  rw [List.getD_eq_getElem?_getD, List.getElem?_eq_getElem hj] at h2
  simp at h2
  omega
section
variable {w : World}
set_option maxHeartbeats 2000000 in
set_option maxRecDepth 100000 in
theorem first_true (C : ManOk) (HAW : ∀ w : World, VarL w → Calls Tryz.prog 7 #[] w fun e w' => e = .returned (.bool true) ∧ Below w.heap.size w w') (s m : ByteArray) (hs : s.size ≤ 140737488351232) (hm : m.size ≤ 140737488351232) (hV : VarL w) :
    Calls Tryz.prog 4 #[.string s, .string m] w fun e w' => e = .returned (.bool true) ∧ Below w.heap.size w w' := by
  have HV := Lib.hid hV
  have HW := Lib.hid HAW
  clear hV HAW
  go_enter Tryz.func4, Tryz.ntmps4
  go_wp2_with fail
  refine (HW.out _ HV.out).mono ?_
  rintro e w1 ⟨rfl, hb1⟩
  have HV1 := Lib.hid (HV.out.later hb1)
  have HB1 := Lib.hid hb1
  clear hb1
  by_cases hz : (599 : Int) < (s.size : Int) + (m.size : Int)
  · go_wp2_with fail
    refine (HW.out _ HV1.out).mono ?_
    rintro e w2 ⟨rfl, hb2⟩
    have HB2 := Lib.hid (below_step HB1.out hb2)
    clear hb2
    go_wp2_with fail
    go_ret
    exact ⟨rfl, HB2.out⟩
  · go_wp2_with fail
    have hRF := refparse8_is s (by omega) w1
    obtain ⟨r, hr⟩ : ∃ r, r = parseP s := ⟨_, rfl⟩
    rw [← hr] at hRF
    have HR := Lib.hid hr
    clear hr
    refine hRF.mono ?_
    rintro e w2 hp
    clear hRF
    rcases r with f | p
    · obtain ⟨hb2, rfl⟩ := hp
      have hb2 := hb2.alloc hb2.size (.cells #[.string ⟨#[]⟩, .slice none 0 0] 25)
      have HB2 := Lib.hid (below_step HB1.out hb2)
      have HV2 := Lib.hid (HV1.out.later hb2)
      have hx : (f.e : Int) ≠ 0 := parse_err HR.out.symm
      have hn : ((f.e : Int) == 0) = false := beq_eq_false_iff_ne.2 hx
      clear hb2 hx
      by_cases h6 : f.e = 6
      · have hn6 : ((f.e : Int) == 6) = true := by rw [h6]; rfl
        clear h6
        go_wp2_with fail
        go_ret
        exact ⟨rfl, HB2.out⟩
      · have hn6 : ((f.e : Int) == 6) = false := beq_eq_false_iff_ne.2 (by omega)
        by_cases h3 : f.e = 3 ∧ s.size ≤ f.p
        · have hn3 : ((f.e : Int) == 3) = true := by rw [h3.1]; rfl
          have hp3 : (s.size : Int) ≤ (f.p : Int) := by have := h3.2; omega
          clear h3 h6
          go_wp2_with fail
          go_ret
          exact ⟨rfl, HB2.out⟩
        · have HPF := Lib.hid (fun hfine => parse_first (s := s) (m := m) (by omega) hfine HR.out.symm h6)
          go_upto_region 4 with fail
          go_cut [44] (fun e wx => wx = (w2.alloc (.cells #[.string ⟨#[]⟩, .slice none 0 0] 25)) ∧ e = .bool false)
          case first =>
            by_cases hn3 : ((f.e : Int) == 3) = true
            · have hp3 : ¬ (s.size : Int) ≤ (f.p : Int) := fun hc => h3 ⟨by have := beq_iff_eq.1 hn3; omega, by omega⟩
              go_wp2_with fail
              go_meet
              exact ⟨rfl, rfl⟩
            · have hn3 : ((f.e : Int) == 3) = false := by simpa using hn3
              go_wp2_with fail
              go_meet
              exact ⟨rfl, rfl⟩
          case rest =>
          obtain ⟨rfl, rfl⟩ := hcut
          generalize (w2.alloc (.cells #[.string ⟨#[]⟩, .slice none 0 0] 25)) = w3 at *
          have HBY := Lib.hid (byL_at m)
          go_wp2_with fail
          go_loopw [47] (fun i wr => ∃ k : Nat, i = .int .i64 k ∧ k ≤ m.size ∧ Below w3.heap.size w3 wr ∧ ∀ j, j < k → byL m j = 10 ∨ (32 ≤ byL m j ∧ byL m j ≤ 126)) (fun i _ => m.size - (intOf i).toNat)
          case atStart => exact ⟨0, rfl, Nat.zero_le _, Below.refl _ _, fun j h => absurd h (by omega)⟩
          case round =>
            obtain ⟨k, rfl, hk, hbw, hall⟩ := hrel
            have HALL := Lib.hid hall
            have HBW := Lib.hid hbw
            clear hall hbw
            by_cases hlt : k < m.size
            · have hB : ∀ h : k < m.size, ((m[k]'h).toNat : Int) = byL m k := HBY.out k
              by_cases h1 : byL m k = 10
              · have q1 : (byL m k != 10) = false := by rw [bne_eq_false_iff_eq]; exact h1
                go_wp2_with fail
                go_roundw
                case rel => exact ⟨k + 1, by go_num, by omega, HBW.out, fun j hj => by
                  rcases Nat.lt_or_ge j k with h | h
                  · exact HALL.out j h
                  · obtain rfl : j = k := by omega
                    omega⟩
                case measure => simp [intOf]; omega
              · have q1 : (byL m k != 10) = true := by rw [bne_iff_ne]; exact h1
                by_cases h2 : byL m k < 32
                · go_wp2_with fail
                  go_ret
                  exact ⟨rfl, below_step HB2.out HBW.out⟩
                · by_cases h4 : 126 < byL m k
                  · go_wp2_with fail
                    go_ret
                    exact ⟨rfl, below_step HB2.out HBW.out⟩
                  · go_wp2_with fail
                    go_roundw
                    case rel => exact ⟨k + 1, by go_num, by omega, HBW.out, fun j hj => by
                      rcases Nat.lt_or_ge j k with h | h
                      · exact HALL.out j h
                      · obtain rfl : j = k := by omega
                        omega⟩
                    case measure => simp [intOf]; omega
            · obtain rfl : k = m.size := by omega
              have HP := Lib.hid (HPF.out (fine_bl HALL.out))
              have HV3 := Lib.hid (HV2.out.later HBW.out)
              have HB3 := Lib.hid (below_step HB2.out HBW.out)
              have HCP := Lib.hid (C.parse (s ++ ofL [10] ++ m) HV3.out (by rw [ByteArray.size_append, ByteArray.size_append, ofL_size]; simp; omega))
              rw [HP.out] at HCP
              have c1 : ¬ (9223372036854775807 : Nat) < s.size + 1 := by omega
              have c2 : ¬ (9223372036854775807 : Nat) < (s ++ ofL [10]).size + m.size := by rw [ByteArray.size_append, ofL_size]; simp; omega
              unfold ofL at HCP c2
              go_wp2_with fail
              refine HCP.out.mono ?_
              rintro e w4 ⟨hb4, A, c, F, rfl, hF⟩
              have b5 := (Below.refl w4.heap.size w4).alloc (Nat.le_refl _) (.cells #[.string ⟨#[]⟩, .slice A (0 : Nat) c] 25)
              have hb5 := below_step hb4 b5
              have HB5 := Lib.hid (below_step HB3.out hb5)
              have HWR := Lib.hid (wrong_is C.at_ (HV3.out.later hb5) (hF.later b5) f.e f.p)
              rw [show (((f.e : Int) == (f.e : Int)) && ((f.p : Int) == (f.p : Int))) = true by simp] at HWR
              unfold fltV at HWR
              clear hb4 b5 hb5 hF HCP c1 c2
              unfold fltV pipV
              go_wp2_with fail
              refine HWR.out.mono ?_
              rintro e w6 ⟨rfl, hb6⟩
              have HB6 := Lib.hid (below_step HB5.out hb6)
              clear hb6
              go_wp2_with fail
              go_ret
              exact ⟨rfl, HB6.out⟩
    · obtain ⟨hb2, A, c, rfl, hA⟩ := hp
      have hb2 := hb2.alloc hb2.size (.cells #[.string p.name, .slice A p.tasks.length c] 25)
      have HB2 := Lib.hid (below_step HB1.out hb2)
      clear hb2 hA
      go_wp2_with fail
      go_ret
      exact ⟨rfl, HB2.out⟩
end
end Go.Proofs.YtcfnmjhelhdobaaGreatDoor
