/-
  The laws' first line for logs (awake), walked. No conditions.
-/
import Derived.Test.YtbdgmddlghhkjaaPlgU
import Derived.Test.YtbdgmddlghhkjaaMakes
import Derived.Test.YtbdgmddlghhkjaaSecB
import Derived.Test.YtbdgmddlghhkjaaRegion
namespace Go.Proofs.Ytbdgmddlghhkjaa
open Go.RowKit

def awK1 : LogV := ⟨1, ⟨#[65]⟩, [], 1⟩
def awK2 : LogV := ⟨1, ⟨#[65]⟩, [⟨#[98]⟩], 2⟩
theorem aw_a1 : appendR (refOf 4 noLog) ⟨#[97]⟩ ⟨#[65]⟩ = (refOf 4 awK1, 0) := by rfl
theorem aw_a2 : appendR (refOf 4 awK1) ⟨#[98]⟩ ⟨#[65, 66]⟩ = (refOf 4 awK2, 0) := by rfl
theorem aw_a3 {r a : ByteArray} (hr : r.size = 114) (ha : a.size = 152) : appendR (refOf 4 awK2) r a = (refOf 4 awK2, 4) := by
  unfold appendR
  rw [hr, ha]
  rfl
theorem run_zero' (n : Nat) (hn : n ≤ 1000) (w : World) : (Instr.makeSlice 61 (.int .i64 (n : Int)) (.int .i64 (n : Int))).run Try.prog w = .ok (.slice (some ⟨w.heap.size, 0, none⟩) n n) (w.alloc (.cells (madeCells #[.int .u8 0] n) 5)) := by
  obtain ⟨i0, hi, hz0, hz1, hz2⟩ := info_parts info_byte3
  have hr := run_make (P := Try.prog) w 61 5 i0 (.int .u8 0) Try.underlying61 hi hz0 .i64 .i64 n n (by omega) (by omega) (by rw [hz2]; omega) (by omega)
  simpa [hz1, Value.cells] using hr

theorem noPanic_normal {Q : Exit → Act → World → Prop} {a : Act} {w : World} (h : Q .normal a w) : NoPanic Q .normal a w := h
set_option maxHeartbeats 1000000 in
set_option maxRecDepth 100000 in
theorem awake_true (w : World) : Calls Try.prog 7 #[] w fun e w' => e = .returned (.bool true) ∧ Below w.heap.size w w' := by
  have INV0 := Lib.hid (inv_new (n := 8) (b := 0) (half := 4) (boot := 1) (by omega) (by omega) (by omega) (by omega) (by omega) (by omega))
  go_enter Try.func7, Try.ntmps7
  go_wp2_with fail
  refine (dnew_yes 8 _ (by omega) (by omega)).mono ?_
  rintro e w1 ⟨D, rfl, hd, hb⟩
  have HD1 := Lib.hid hd
  have HB1 := Lib.hid hb
  clear hd hb
  go_wp2_with fail
  refine (lopen_is HD1.out INV0.out).mono ?_
  rintro e w2 ⟨B, v, rfl, hp, hb2⟩
  have HB2 := Lib.hid (below_step HB1.out hb2)
  have HL2 := Lib.hid (LogM.mono hp HB1.out.size (diskAt_later HD1.out hb2) INV0.out)
  clear hp hb2 HD1 HB1 INV0
  go_wp2_with fail
  refine (popen_arg HL2.out.disk 0 5 1 (by rfl)).mono ?_
  rintro e w3 ⟨rfl, hw3⟩
  subst hw3
  go_wp2_with fail
  refine (popen_nil 0 1 1 _).mono ?_
  rintro e w3 ⟨rfl, hw3⟩
  subst hw3
  go_wp2_with fail
  refine (lgen_is HL2.out.plog (g := 0) rfl).mono ?_
  rintro e w3 ⟨rfl, hw3⟩
  subst hw3
  go_wp2_with fail
  refine (lroom_is HL2.out.plog (r := 0) rfl).mono ?_
  rintro e w3 ⟨rfl, hw3⟩
  subst hw3
  go_wp2_with fail
  refine (lappend_at HL2.out HB2.out.size rfl (by omega) ⟨#[97]⟩ ⟨#[65]⟩ (by decide) (by decide) awK1 0 aw_a1).mono ?_
  rintro e w3 ⟨rfl, ⟨l3, st3, v3, hl3, hz3, hv3⟩, ho3, hb3⟩
  have HL3 := Lib.hid hl3
  have HZ3 := Lib.hid hz3
  have HB3 := Lib.hid (HB2.out.trans hb3)
  clear hl3 hz3 hv3 ho3 hb3 HL2 HB2
  go_wp2_with fail
  refine (lappend_at HL3.out HB3.out.size HZ3.out (by omega) ⟨#[98]⟩ ⟨#[65, 66]⟩ (by decide) (by decide) awK2 0 aw_a2).mono ?_
  rintro e w4 ⟨rfl, ⟨l4, st4, v4, hl4, hz4, hv4⟩, ho4, hb4⟩
  have HL4 := Lib.hid hl4
  have HZ4 := Lib.hid hz4
  have HB4 := Lib.hid (HB3.out.trans hb4)
  clear hl4 hz4 hv4 ho4 hb4 HL3 HB3 HZ3
  go_wp2_with fail
  refine (lopen_is HL4.out.disk (HL4.out.inv.again (b := 2) (by show (1 : Int) < 2; omega) (by omega))).mono ?_
  rintro e w5 ⟨B5, v5, rfl, hp5, hb5⟩
  have HM5 := Lib.hid hp5
  have HL5 := Lib.hid (HL4.out.later hb5)
  have HB5 := Lib.hid (below_step HB4.out hb5)
  have HS5 := Lib.hid hb5.size
  have HN5 := Lib.hid (show B < w4.heap.size ∧ ∀ g, v4.ownBlock = some g → g < w4.heap.size from ⟨HL4.out.plog.blt, HL4.out.plog.vlt⟩)
  clear hp5 hb5 HL4 HB4
  go_wp2_with fail
  refine (lrecords_is HM5.out (by decide) (l := [⟨#[98]⟩]) rfl (n := 1) rfl).mono ?_
  rintro e w6 ⟨A6, c6, rfl, ht6, hb6, ho6⟩
  have HM6 := Lib.hid (HM5.out.later hb6)
  have HL6 := Lib.hid (HL5.out.later hb6)
  have HB6 := Lib.hid (below_step HB5.out hb6)
  have HT6 := Lib.hid ho6
  clear ht6 hb6 ho6 HM5 HL5 HB5
  go_wp2_with fail
  refine wp_region_noPanic ?_
  refine region_begins 7 (by kernel_rfl) rfl ?_
  refine any_take 0 55 (v := .pointer (some ⟨B, 0, none⟩)) rfl rfl (by kernel_rfl) (by kernel_rfl) (by kernel_rfl) noPanic_any (by rfl) (fun _ => by go_simp) ?_
  simp only [Act.put, List.setIfInBounds_toArray, List.set_cons_zero, List.set_cons_succ]
  refine two_makes (S := fun W => Below w6.heap.size w6 W) (m1 := 1) (v1 := 2) (m2 := 3) (v2 := 4) (dm1 := 56) (dv1 := 57) (dm2 := 58) (dv2 := 59) (mk1 := fun B => .slice (some ⟨B, 0, none⟩) 114 114) (mk2 := fun B => .slice (some ⟨B, 0, none⟩) 152 152)
    (o1 := .cells (madeCells #[.int .u8 0] 114) 5) (o2 := .cells (madeCells #[.int .u8 0] 152) 5) (z1 := .string (zeroB 114)) (z2 := .string (zeroB 152)) (n := 2)
    (by kernel_rfl) (by kernel_rfl) (by kernel_rfl) (by kernel_rfl) (by kernel_rfl) (by kernel_rfl) (by kernel_rfl) (by kernel_rfl) (by decide) (by decide) (by decide) (by decide) (by decide) (by decide) (by decide) (by decide) (by simp) (by simp) (Below.refl _ _).drew (fun _ _ => below_step) ?m1 ?v1 ?m2 ?v2 ?rest
  case m1 =>
    intro a K wx hK
    have HK := Lib.hid hK
    clear hK
    refine wpOp_step rfl (fun K' hK' => ?_)
    have HK' := Lib.hid hK'
    clear hK'
    have h1 := run_zero' 114 (by omega) wx
    go_simp
    exact HK'.out _ _ HK.out
  case m2 =>
    intro a K wx hK
    have HK := Lib.hid hK
    clear hK
    refine wpOp_step rfl (fun K' hK' => ?_)
    have HK' := Lib.hid hK'
    clear hK'
    have h1 := run_zero' 152 (by omega) wx
    go_simp
    exact HK'.out _ _ HK.out
  case v1 =>
    intro a B K wx he hB hK
    have HK := Lib.hid hK
    clear hK
    refine wpOp_step rfl (fun K' hK' => ?_)
    have HK' := Lib.hid hK'
    clear hK'
    have h1 := conv_zero_at 114 hB
    have he' : a.tmps[56]?.getD undef = .slice (some ⟨B, 0, none⟩) 114 114 := by simpa [Act.eval] using he
    clear he
    go_simp
    exact HK'.out _ _ HK.out
  case v2 =>
    intro a B K wx he hB hK
    have HK := Lib.hid hK
    clear hK
    refine wpOp_step rfl (fun K' hK' => ?_)
    have HK' := Lib.hid hK'
    clear hK'
    have h1 := conv_zero_at 152 hB
    have he' : a.tmps[58]?.getD undef = .slice (some ⟨B, 0, none⟩) 152 152 := by simpa [Act.eval] using he
    clear he
    go_simp
    exact HK'.out _ _ HK.out
  case rest =>
  intro B1 B2 w7 hb7
  simp only [Act.put, List.setIfInBounds_toArray, List.set_cons_zero, List.set_cons_succ]
  have HL7 := Lib.hid (HL6.out.later hb7)
  have HM7 := Lib.hid (HM6.out.later hb7)
  have HB7 := Lib.hid (below_step HB6.out hb7)
  have HT7 := Lib.hid (own_agree HT6.out (fun q _ hq => hb7.block q hq))
  have HS7 := Lib.hid hb7.size
  clear hb7 HL6 HM6 HB6 HT6
  refine one_ready (i := 5) (by kernel_rfl) (wpOp_step rfl (fun KK hKK => ?_))
  have HKK := Lib.hid hKK
  clear hKK
  go_simp
  refine (lappend_at HL7.out HB7.out.size HZ4.out (by omega) (zeroB 114) (zeroB 152) (by rw [zeroB_size]; omega) (by rw [zeroB_size]; omega) awK2 4 (aw_a3 (zeroB_size _) (zeroB_size _))).mono ?_
  rintro e w8 ⟨rfl, ⟨l8, st8, v8, hl8, hz8, hv8⟩, ho8, hb8⟩
  have HL8 := Lib.hid hl8
  have HB8 := Lib.hid (HB7.out.trans hb8)
  have hlow : ∀ g cs t, w4.heap.size ≤ g → w7.heap[g]? = some (.cells cs t (0, 0)) → progT t = false → ¬ (g = B ∨ v4.ownBlock = some g ∨ dskU w.heap.size w7 g) := by
    intro g cs t h1 h2 h3
    have hn := HN5.out
    rintro (h | h | ⟨_, cs', t', m, h4, h5⟩)
    · omega
    · have := hn.2 g h; omega
    · rw [h2] at h4
      injection h4 with h4
      injection h4 with _ h4
      rw [← h4, h3] at h5
      cases h5
  have HM8 := Lib.hid (HM7.out.frame ho8 (hlow _ _ _ HM7.out.2.1 HM7.out.1 (by decide)) (fun g hg => by
    obtain ⟨h1, cs, h2⟩ := own_type HM7.out.2.2 hg
    exact hlow g _ _ h1 h2 (by decide)))
  have HT8 := Lib.hid (own_only HT7.out ho8 (fun g hg => by
    obtain ⟨h1, cs, h2⟩ := own_type HT7.out hg
    exact hlow g _ _ (Nat.le_trans HS5.out h1) h2 (by decide)))
  clear hl8 hz8 hv8 ho8 hb8 hlow HL7 HM7 HT7 HB7 HS7 HN5 HS5
  refine HKK.out _ _ ?_
  clear HKK KK
  refine one_ready (i := 6) (by kernel_rfl) (wpOp_step rfl (fun KK hKK => ?_))
  have HKK := Lib.hid hKK
  clear hKK
  go_simp
  refine HKK.out _ _ ?_
  clear HKK KK
  refine ⟨by kernel_rfl, ?_⟩
  obtain ⟨g, cap, e6, hc6⟩ : ∃ g cap, Value.slice A6 1 c6 = .slice (some ⟨g, 0, none⟩) 1 cap ∧ w8.cell? ⟨g, 0, none⟩ = some (.string ⟨#[98]⟩) := by
    rcases HT8.out.2 with ⟨_, e⟩ | ⟨q, cap, cur, e, hb, hq, _⟩
    · cases e
    · refine ⟨q, cap, e, ?_⟩
      have := HT8.out
      rw [e] at this
      have hc := this.cellAt 0 (by omega)
      simpa [txV] using hc
  injection e6 with e6 _ e6c
  subst e6 e6c
  refine noPanic_normal ?_
  go_wp2_with fail
  refine (lgen_is HM8.out (g := 1) rfl).mono ?_
  rintro e w9 ⟨rfl, hw9⟩
  subst hw9
  go_wp2_with fail
  refine (lbase_is HM8.out (s := ⟨#[65]⟩) rfl).mono ?_
  rintro e w9 ⟨rfl, hw9⟩
  subst hw9
  go_wp2_with fail
  refine (lroom_is HM8.out (r := 2) rfl).mono ?_
  rintro e w9 ⟨rfl, hw9⟩
  subst hw9
  go_wp2_with fail
  refine (lroom_is HL8.out.plog (r := 2) rfl).mono ?_
  rintro e w9 ⟨rfl, hw9⟩
  subst hw9
  go_wp2_with fail
  refine (sectors_is ⟨#[]⟩ (by decide) _).mono ?_
  rintro e w9 ⟨rfl, hw9⟩
  subst hw9
  go_wp2_with fail
  go_ret
  exact ⟨rfl, HB8.out⟩
end Go.Proofs.Ytbdgmddlghhkjaa
