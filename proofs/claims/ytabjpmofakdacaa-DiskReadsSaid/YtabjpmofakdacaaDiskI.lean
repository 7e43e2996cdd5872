/-
  The laws' first line for disks (awake), walked. No conditions but the bundle.
-/
import Derived.Test.YtabjpmofakdacaaDiskH
import Derived.Test.YtabjpmofakdacaaPhaseB
import Derived.Test.YtabjpmofakdacaaRegion
import Derived.Deep.RegionHeld3
namespace Go.Proofs.Ytabjpmofakdacaa
open Go.RowKit

section
variable {DiskAt : World → Nat → Nat → Dk → Prop} {T : TypeId → Bool} {w : World}

/-- The disk is in this state, and what was there before the law is as it was. -/
structure AwS (DiskAt : World → Nat → Nat → Dk → Prop) (w : World) (D : Nat) (st : Dk) (W : World) : Prop where
  disk : DiskAt W w.heap.size D st
  below : Below w.heap.size w W
theorem AwS.later {D : Nat} {st : Dk} {W W' : World} (C : DiskC DiskAt T) (h : AwS DiskAt w D st W) (hb : Below W.heap.size W W') : AwS DiskAt w D st W' :=
  ⟨C.frame h.1 (OnlyT.of_below hb), h.2.trans (hb.mono h.2.size)⟩
theorem AwS.step {D : Nat} {st st' : Dk} {W W' : World} {T' : TypeId → Bool} (h : AwS DiskAt w D st W) (hd : DiskAt W' w.heap.size D st' ∧ OnlyT w.heap.size T' W W') : AwS DiskAt w D st' W' :=
  ⟨hd.1, h.2.trans (hd.2.below h.2.size)⟩

theorem fill_lit (s t : ByteArray) (hs : s.size ≤ maxLen) (ht : fillB s = t) (W : World) : Calls Try.prog 12 #[.string s] W fun e w' => e = .returned (.string t) ∧ W = w' :=
  (fill_is s hs W).mono fun _ _ h => by rw [← ht]; exact h

theorem fill_a (W : World) : Calls Try.prog 12 #[.string ⟨#[97]⟩] W fun e w' => e = .returned (.string txA) ∧ W = w' := fill_lit _ _ (by unfold maxLen; decide) rfl W
theorem fill_b (W : World) : Calls Try.prog 12 #[.string ⟨#[98]⟩] W fun e w' => e = .returned (.string txB) ∧ W = w' := fill_lit _ _ (by unfold maxLen; decide) rfl W
theorem fill_c (W : World) : Calls Try.prog 12 #[.string ⟨#[48, 49, 50, 51, 52, 53, 54, 55, 56, 57, 97, 98, 99, 100, 101, 102, 103, 104, 105, 106]⟩] W fun e w' => e = .returned (.string txC) ∧ W = w' := fill_lit _ _ (by unfold maxLen; decide) rfl W
theorem fill_e (W : World) : Calls Try.prog 12 #[.string ⟨#[]⟩] W fun e w' => e = .returned (.string (fillB ⟨#[]⟩)) ∧ W = w' := fill_lit _ _ (by unfold maxLen; decide) rfl W

theorem conv_zero_at (n : Nat) {w : World} {B : Nat} (h : w.heap[B]? = some (.cells (madeCells #[.int .u8 0] n) 5)) : (convert 52 9 (.slice (some ⟨B, 0, none⟩) n n)).run Try.prog w = .ok (.string (zeroB n)) w := by
  refine run_convert_bytes_arg _ 52 5 Try.underlying52 Try.underlying5 _ 0 n n (List.replicate n 0) (by simp) (fun i hi => ?_) 9 Try.underlying9
  have e : (madeCells #[Value.int .u8 0] n)[i]? = some (.int .u8 0) := by
    rw [← Array.getElem?_toList, toList_madeCells_one]
    simp [hi]
  simp [World.cell?, h, e, hi]

theorem run_64 (w : World) : (Instr.makeSlice 52 (.int .i64 64) (.int .i64 64)).run Try.prog w = .ok (.slice (some ⟨w.heap.size, 0, none⟩) 64 64) (w.alloc (.cells (madeCells #[.int .u8 0] 64) 5)) := run_zero 64 (by omega) w
theorem run_48 (w : World) : (Instr.makeSlice 52 (.int .i64 48) (.int .i64 48)).run Try.prog w = .ok (.slice (some ⟨w.heap.size, 0, none⟩) 48 48) (w.alloc (.cells (madeCells #[.int .u8 0] 48) 5)) := run_zero 48 (by omega) w

theorem kept_step {D : Nat} {st : Dk} {f : FuncId} {args : Array Value} {x : HeldW (AwS DiskAt w D st)} {v : Value} {T' : TypeId → Bool} (h : Calls Try.prog f args x.w fun e w' => e = .returned v ∧ DiskAt w' w.heap.size D st ∧ OnlyT w.heap.size T' x.w w') :
    Calls Try.prog f args x.w fun e w'' => e = .returned v ∧ ∃ y : HeldW (AwS DiskAt w D st), w'' = y.w := h.mono fun _ w' ⟨he, hd⟩ => ⟨he, ⟨w', x.ok.step hd⟩, rfl⟩
theorem aw8_is : aw8 = aw7 := by kernel_rfl
section
variable {base D : Nat}
theorem bw_f (C : DiskC DiskAt T) (h : DiskAt w base D aw7) (hb : base ≤ w.heap.size) : Calls Try.prog 15 #[.pointer (some ⟨D, 0, none⟩)] w fun e w' => e = .returned (.int .i64 0) ∧ DiskAt w' base D aw7 ∧ OnlyT base T w w' := by
  have := aw_f C h hb
  rw [aw8_is] at this
  exact this
theorem bw_w4 (C : DiskC DiskAt T) (h : DiskAt w base D aw7) (hb : base ≤ w.heap.size) : Calls Try.prog 13 #[.pointer (some ⟨D, 0, none⟩), .int .i64 3, .string (fillB ⟨#[]⟩)] w fun e w' => e = .returned (.int .i64 2) ∧ DiskAt w' base D aw7 ∧ OnlyT base T w w' := by
  rw [← aw8_is] at h
  have := aw_w4 C h hb (fillB ⟨#[]⟩) (by unfold maxLen; decide +kernel)
  rw [aw8_is] at this
  exact this
theorem bw_w5 (C : DiskC DiskAt T) (h : DiskAt w base D aw7) (hb : base ≤ w.heap.size) : Calls Try.prog 13 #[.pointer (some ⟨D, 0, none⟩), .int .i64 0, .string ⟨#[]⟩] w fun e w' => e = .returned (.int .i64 1) ∧ DiskAt w' base D aw7 ∧ OnlyT base T w w' := by
  rw [← aw8_is] at h
  have := aw_w5 C h hb
  rw [aw8_is] at this
  exact this
theorem bw_n (C : DiskC DiskAt T) (h : DiskAt w base D aw7) : Calls Try.prog 26 #[.pointer (some ⟨D, 0, none⟩)] w fun e w' => e = .returned (.int .i64 3) ∧ Below w.heap.size w w' := by
  rw [← aw8_is] at h
  exact aw_n C h
theorem bw_l (C : DiskC DiskAt T) (h : DiskAt w base D aw7) : Calls Try.prog 27 #[.pointer (some ⟨D, 0, none⟩)] w fun e w' => e = .returned (.int .i64 3) ∧ Below w.heap.size w w' := by
  rw [← aw8_is] at h
  exact aw_l C h
theorem aw_t1 (C : DiskC DiskAt T) : Calls Try.prog 30 #[.int .u64 7, .int .i64 0] w fun e w' => e = .returned (.int .i64 48) ∧ Below w.heap.size w w' := by
  have := C.fate 7 0 w (by omega) (by omega) (by omega) (by omega)
  rw [show fateV 7 0 = 48 by decide +kernel] at this
  exact this
theorem aw_t2 (C : DiskC DiskAt T) : Calls Try.prog 30 #[.int .u64 8, .int .i64 1] w fun e w' => e = .returned (.int .i64 64) ∧ Below w.heap.size w w' := by
  have := C.fate 8 1 w (by omega) (by omega) (by omega) (by omega)
  rw [show fateV 8 1 = 64 by decide +kernel] at this
  exact this
end

attribute [local irreducible] txA txB txC

set_option maxHeartbeats 1000000 in
set_option maxRecDepth 100000 in
theorem awake_is (C : DiskC DiskAt T) (w : World) : Calls Try.prog 9 #[] w fun e w' => e = .returned (.bool true) ∧ Below w.heap.size w w' := by
  have HC := Lib.hid C
  clear C
  go_enter Try.func9, Try.ntmps9
  go_wp2_with fail
  refine (HC.out.new_yes 3 _ (by omega) (by omega)).mono ?_
  rintro e w1 ⟨D, rfl, hd, hb⟩
  have H := Lib.hid (show AwS DiskAt w D (newS 3) w1 from ⟨hd, hb⟩)
  clear hd hb
  go_wp2_with fail
  refine (HC.out.new_no 0 _ (by omega)).mono ?_
  rintro e w2 ⟨rfl, hb⟩
  replace H := Lib.hid (H.out.later HC.out hb)
  clear hb
  go_wp2_with fail
  refine (fill_a _).mono ?_
  rintro e _ ⟨rfl, rfl⟩
  go_wp2_with fail
  refine (aw_w1 HC.out H.out.1 H.out.2.size).mono ?_
  rintro e w3 ⟨rfl, hd⟩
  replace H := Lib.hid (H.out.step hd)
  clear hd
  go_wp2_with fail
  refine (fill_b _).mono ?_
  rintro e _ ⟨rfl, rfl⟩
  go_wp2_with fail
  refine (aw_w2 HC.out H.out.1 H.out.2.size).mono ?_
  rintro e w4 ⟨rfl, hd⟩
  replace H := Lib.hid (H.out.step hd)
  clear hd
  go_wp2_with fail
  refine (aw_r1 HC.out H.out.1 H.out.2.size).mono ?_
  rintro e w5 ⟨rfl, hd⟩
  replace H := Lib.hid (H.out.step hd)
  clear hd
  go_wp2_with fail
  refine (HC.out.crash H.out.1 H.out.2.size (by decide +kernel) 1 (by omega) (by omega)).mono ?_
  rintro e w6 ⟨rfl, hd⟩
  replace H := Lib.hid (show AwS DiskAt w D aw3 w6 from H.out.step hd)
  clear hd
  go_wp2_with fail
  refine (aw_r2 HC.out H.out.1 H.out.2.size).mono ?_
  rintro e w7 ⟨rfl, hd⟩
  replace H := Lib.hid (H.out.step hd)
  clear hd
  go_wp2_with fail
  refine (HC.out.start H.out.1 H.out.2.size).mono ?_
  rintro e w8 ⟨rfl, hd⟩
  replace H := Lib.hid (show AwS DiskAt w D aw4 w8 from H.out.step hd)
  clear hd
  go_wp2_with fail
  refine (HC.out.arm H.out.1 H.out.2.size 1 3 (by omega) (by omega) (by omega)).mono ?_
  rintro e w9 ⟨rfl, hd⟩
  replace H := Lib.hid (show AwS DiskAt w D aw5 w9 from H.out.step hd)
  clear hd
  go_wp2_with fail
  refine (fill_c _).mono ?_
  rintro e _ ⟨rfl, rfl⟩
  go_wp2_with fail
  refine (aw_w3 HC.out H.out.1 H.out.2.size).mono ?_
  rintro e w10 ⟨rfl, hd⟩
  replace H := Lib.hid (H.out.step hd)
  clear hd
  go_wp2_with fail
  refine (HC.out.start H.out.1 H.out.2.size).mono ?_
  rintro e w11 ⟨rfl, hd⟩
  replace H := Lib.hid (show AwS DiskAt w D aw7 w11 from H.out.step hd)
  clear hd
  go_wp2_with fail
  refine wp_region_noPanic ?_
  dsimp only [List.append]
  refine region_begins 87 (by kernel_rfl) rfl ?_
  have H2 := Lib.hid (show AwS DiskAt w D aw7 w11.drew from H.out.later HC.out (Below.refl _ _).drew)
  clear H
  have keep := Lib.hid (show ∀ v v', AwS DiskAt w D aw7 v → Below v.heap.size v v' → AwS DiskAt w D aw7 v' from fun _ _ h hb => h.later HC.out hb)
  refine any_phase (AwS DiskAt w D aw7) 0 34 53 (by kernel_rfl) rfl (by kernel_rfl) (by kernel_rfl) (by kernel_rfl) (by kernel_rfl) H2.out ?_
  clear H2
  intro hne
  simp only [List.drop_zero, List.take_succ_cons, List.take_zero]
  repeat (go_big_quiet_step (fail))
  go_big_quiet_step (first | (go_at_call 12; exact kept_same (fill_b _)))
  go_big_quiet_step (fail)
  repeat (go_big_quiet_step (fail))
  go_big_quiet_step (first | (go_at_call 28; rename_i xx; exact kept_of keep.out (aw_k0 HC.out xx.ok.disk)))
  go_big_quiet_step (first | (go_at_call 12; exact kept_same (fill_a _)))
  repeat (go_big_quiet_step (fail))
  refine wpQuiet_nil ?_
  rintro wq ⟨⟨_, hq⟩, rfl⟩
  clear hne
  refine any_take 34 84 (v := .pointer (some ⟨D, 0, none⟩)) rfl rfl (by kernel_rfl) (by kernel_rfl) (by kernel_rfl) noPanic_any (by rfl) (fun _ => by go_simp) ?_
  simp only [Act.put, List.setIfInBounds_toArray, List.set_cons_zero, List.set_cons_succ]
  refine two_ways (S := AwS DiskAt w D aw7) (c := 35) (m := 36) (v := 37) (dc := 85) (dm := 86) (dv := 87) (vc := .string (zeroB 64)) (z := .string (zeroB 64)) (mk := fun B => .slice (some ⟨B, 0, none⟩) 64 64) (o := .cells (madeCells #[.int .u8 0] 64) 5) (n := 49) (by kernel_rfl) (by kernel_rfl) (by kernel_rfl) (by kernel_rfl) (by kernel_rfl) (by decide) (by decide) (by decide) (by decide) hq keep.out ?hc1 ?hc2 ?hc3 ?hm1 ?hm2 ?hv1 ?hv2 ?rest
  case hc1 =>
    intros
    intro K wx hSx hKx
    have HK := Lib.hid hKx
    clear hKx
    (try simp only [Act.put, List.setIfInBounds_toArray, List.set_cons_zero, List.set_cons_succ])
    (try simp only [Act.put, List.setIfInBounds_toArray, List.set_cons_zero, List.set_cons_succ] at HK)
    refine wpOp_step rfl (fun K' hK' => ?_)
    have HK' := Lib.hid hK'
    clear hK'
    go_simp
    refine ((aw_k1 HC.out) hSx.disk).mono ?_
    intro e wy hh
    have he := hh.1
    have HB := Lib.hid hh.2
    clear hh
    subst he
    exact HK'.out _ _ (HK.out _ HB.out)
  case hc2 =>
    intros
    intro K wx hSx hKx
    have HK := Lib.hid hKx
    clear hKx
    (try simp only [Act.put, List.setIfInBounds_toArray, List.set_cons_zero, List.set_cons_succ])
    (try simp only [Act.put, List.setIfInBounds_toArray, List.set_cons_zero, List.set_cons_succ] at HK)
    refine wpOp_step rfl (fun K' hK' => ?_)
    have HK' := Lib.hid hK'
    clear hK'
    go_simp
    refine ((aw_k1 HC.out) hSx.disk).mono ?_
    intro e wy hh
    have he := hh.1
    have HB := Lib.hid hh.2
    clear hh
    subst he
    exact HK'.out _ _ (HK.out _ HB.out)
  case hc3 =>
    intros
    intro K wx hSx hKx
    have HK := Lib.hid hKx
    clear hKx
    (try simp only [Act.put, List.setIfInBounds_toArray, List.set_cons_zero, List.set_cons_succ])
    (try simp only [Act.put, List.setIfInBounds_toArray, List.set_cons_zero, List.set_cons_succ] at HK)
    refine wpOp_step rfl (fun K' hK' => ?_)
    have HK' := Lib.hid hK'
    clear hK'
    go_simp
    refine ((aw_k1 HC.out) hSx.disk).mono ?_
    intro e wy hh
    have he := hh.1
    have HB := Lib.hid hh.2
    clear hh
    subst he
    exact HK'.out _ _ (HK.out _ HB.out)
  case hm1 =>
    intros
    intro K wx hKx
    have HK := Lib.hid hKx
    clear hKx
    (try simp only [Act.put, List.setIfInBounds_toArray, List.set_cons_zero, List.set_cons_succ])
    (try simp only [Act.put, List.setIfInBounds_toArray, List.set_cons_zero, List.set_cons_succ] at HK)
    refine wpOp_step rfl (fun K' hK' => ?_)
    have HK' := Lib.hid hK'
    clear hK'
    have h1 := run_64 wx
    go_simp
    exact HK'.out _ _ HK.out
  case hm2 =>
    intros
    intro K wx hKx
    have HK := Lib.hid hKx
    clear hKx
    (try simp only [Act.put, List.setIfInBounds_toArray, List.set_cons_zero, List.set_cons_succ])
    (try simp only [Act.put, List.setIfInBounds_toArray, List.set_cons_zero, List.set_cons_succ] at HK)
    refine wpOp_step rfl (fun K' hK' => ?_)
    have HK' := Lib.hid hK'
    clear hK'
    have h1 := run_64 wx
    go_simp
    exact HK'.out _ _ HK.out
  case hv1 =>
    intros
    intro K wx hBx hKx
    have HK := Lib.hid hKx
    clear hKx
    (try simp only [Act.put, List.setIfInBounds_toArray, List.set_cons_zero, List.set_cons_succ])
    (try simp only [Act.put, List.setIfInBounds_toArray, List.set_cons_zero, List.set_cons_succ] at HK)
    refine wpOp_step rfl (fun K' hK' => ?_)
    have HK' := Lib.hid hK'
    clear hK'
    have h1 := (conv_zero_at 64) hBx
    go_simp
    exact HK'.out _ _ HK.out
  case hv2 =>
    intros
    intro K wx hBx hKx
    have HK := Lib.hid hKx
    clear hKx
    (try simp only [Act.put, List.setIfInBounds_toArray, List.set_cons_zero, List.set_cons_succ])
    (try simp only [Act.put, List.setIfInBounds_toArray, List.set_cons_zero, List.set_cons_succ] at HK)
    refine wpOp_step rfl (fun K' hK' => ?_)
    have HK' := Lib.hid hK'
    clear hK'
    have h1 := (conv_zero_at 64) hBx
    go_simp
    exact HK'.out _ _ HK.out
  case rest =>
  clear hq
  intro B wq hq
  simp only [Act.put, List.setIfInBounds_toArray, List.set_cons_zero, List.set_cons_succ]
  refine any_phase (AwS DiskAt w D aw7) 38 7 42 (by kernel_rfl) rfl (by kernel_rfl) (by kernel_rfl) (by kernel_rfl) (by kernel_rfl) hq ?_
  clear hq
  intro hne
  simp only [List.drop_succ_cons, List.drop_zero, List.take_succ_cons, List.take_zero]
  repeat (go_big_quiet_step (fail))
  refine wpQuiet_nil ?_
  clear wq
  rintro wq ⟨⟨_, hq⟩, rfl⟩
  clear hne
  refine any_take 45 95 (v := .pointer (some ⟨D, 0, none⟩)) rfl rfl (by kernel_rfl) (by kernel_rfl) (by kernel_rfl) noPanic_any (by rfl) (fun _ => by go_simp) ?_
  simp only [Act.put, List.setIfInBounds_toArray, List.set_cons_zero, List.set_cons_succ]
  refine three_ways (S := AwS DiskAt w D aw7) (c := 46) (m := 47) (v := 48) (x := 49) (dc := 96) (dm := 97) (dv := 98) (dx := 99) (vc := .string (⟨#[48, 49, 50, 51, 52, 53, 54, 55, 56, 57, 97, 98, 99, 100, 101, 102]⟩ ++ zeroB 48)) (z := .string (zeroB 48)) (y := .string (⟨#[48, 49, 50, 51, 52, 53, 54, 55, 56, 57, 97, 98, 99, 100, 101, 102]⟩ ++ zeroB 48)) (mk := fun B => .slice (some ⟨B, 0, none⟩) 48 48) (o := .cells (madeCells #[.int .u8 0] 48) 5) (n := 37) (by kernel_rfl) (by kernel_rfl) (by kernel_rfl) (by kernel_rfl) (by kernel_rfl) (by kernel_rfl) (by kernel_rfl) (by decide) (by decide) (by decide) (by decide) (by decide) (by decide) hq keep.out ?hc1 ?hc2 ?hc3 ?hc4 ?hm1 ?hm2 ?hv1 ?hv2 ?hx1 ?hx2 ?rest
  case hc1 =>
    intros
    intro K wx hSx hKx
    have HK := Lib.hid hKx
    clear hKx
    (try simp only [Act.put, List.setIfInBounds_toArray, List.set_cons_zero, List.set_cons_succ])
    (try simp only [Act.put, List.setIfInBounds_toArray, List.set_cons_zero, List.set_cons_succ] at HK)
    refine wpOp_step rfl (fun K' hK' => ?_)
    have HK' := Lib.hid hK'
    clear hK'
    go_simp
    refine ((aw_k2 HC.out) hSx.disk).mono ?_
    intro e wy hh
    have he := hh.1
    have HB := Lib.hid hh.2
    clear hh
    subst he
    exact HK'.out _ _ (HK.out _ HB.out)
  case hc2 =>
    intros
    intro K wx hSx hKx
    have HK := Lib.hid hKx
    clear hKx
    (try simp only [Act.put, List.setIfInBounds_toArray, List.set_cons_zero, List.set_cons_succ])
    (try simp only [Act.put, List.setIfInBounds_toArray, List.set_cons_zero, List.set_cons_succ] at HK)
    refine wpOp_step rfl (fun K' hK' => ?_)
    have HK' := Lib.hid hK'
    clear hK'
    go_simp
    refine ((aw_k2 HC.out) hSx.disk).mono ?_
    intro e wy hh
    have he := hh.1
    have HB := Lib.hid hh.2
    clear hh
    subst he
    exact HK'.out _ _ (HK.out _ HB.out)
  case hc3 =>
    intros
    intro K wx hSx hKx
    have HK := Lib.hid hKx
    clear hKx
    (try simp only [Act.put, List.setIfInBounds_toArray, List.set_cons_zero, List.set_cons_succ])
    (try simp only [Act.put, List.setIfInBounds_toArray, List.set_cons_zero, List.set_cons_succ] at HK)
    refine wpOp_step rfl (fun K' hK' => ?_)
    have HK' := Lib.hid hK'
    clear hK'
    go_simp
    refine ((aw_k2 HC.out) hSx.disk).mono ?_
    intro e wy hh
    have he := hh.1
    have HB := Lib.hid hh.2
    clear hh
    subst he
    exact HK'.out _ _ (HK.out _ HB.out)
  case hc4 =>
    intros
    intro K wx hSx hKx
    have HK := Lib.hid hKx
    clear hKx
    (try simp only [Act.put, List.setIfInBounds_toArray, List.set_cons_zero, List.set_cons_succ])
    (try simp only [Act.put, List.setIfInBounds_toArray, List.set_cons_zero, List.set_cons_succ] at HK)
    refine wpOp_step rfl (fun K' hK' => ?_)
    have HK' := Lib.hid hK'
    clear hK'
    go_simp
    refine ((aw_k2 HC.out) hSx.disk).mono ?_
    intro e wy hh
    have he := hh.1
    have HB := Lib.hid hh.2
    clear hh
    subst he
    exact HK'.out _ _ (HK.out _ HB.out)
  case hm1 =>
    intros
    intro K wx hKx
    have HK := Lib.hid hKx
    clear hKx
    (try simp only [Act.put, List.setIfInBounds_toArray, List.set_cons_zero, List.set_cons_succ])
    (try simp only [Act.put, List.setIfInBounds_toArray, List.set_cons_zero, List.set_cons_succ] at HK)
    refine wpOp_step rfl (fun K' hK' => ?_)
    have HK' := Lib.hid hK'
    clear hK'
    have h1 := run_48 wx
    go_simp
    exact HK'.out _ _ HK.out
  case hm2 =>
    intros
    intro K wx hKx
    have HK := Lib.hid hKx
    clear hKx
    (try simp only [Act.put, List.setIfInBounds_toArray, List.set_cons_zero, List.set_cons_succ])
    (try simp only [Act.put, List.setIfInBounds_toArray, List.set_cons_zero, List.set_cons_succ] at HK)
    refine wpOp_step rfl (fun K' hK' => ?_)
    have HK' := Lib.hid hK'
    clear hK'
    have h1 := run_48 wx
    go_simp
    exact HK'.out _ _ HK.out
  case hv1 =>
    intros
    intro K wx hBx hKx
    have HK := Lib.hid hKx
    clear hKx
    (try simp only [Act.put, List.setIfInBounds_toArray, List.set_cons_zero, List.set_cons_succ])
    (try simp only [Act.put, List.setIfInBounds_toArray, List.set_cons_zero, List.set_cons_succ] at HK)
    refine wpOp_step rfl (fun K' hK' => ?_)
    have HK' := Lib.hid hK'
    clear hK'
    have h1 := (conv_zero_at 48) hBx
    go_simp
    exact HK'.out _ _ HK.out
  case hv2 =>
    intros
    intro K wx hBx hKx
    have HK := Lib.hid hKx
    clear hKx
    (try simp only [Act.put, List.setIfInBounds_toArray, List.set_cons_zero, List.set_cons_succ])
    (try simp only [Act.put, List.setIfInBounds_toArray, List.set_cons_zero, List.set_cons_succ] at HK)
    refine wpOp_step rfl (fun K' hK' => ?_)
    have HK' := Lib.hid hK'
    clear hK'
    have h1 := (conv_zero_at 48) hBx
    go_simp
    exact HK'.out _ _ HK.out
  case hx1 =>
    intros
    intro K wx hBx hKx
    have HK := Lib.hid hKx
    clear hKx
    (try simp only [Act.put, List.setIfInBounds_toArray, List.set_cons_zero, List.set_cons_succ])
    (try simp only [Act.put, List.setIfInBounds_toArray, List.set_cons_zero, List.set_cons_succ] at HK)
    refine wpOp_step rfl (fun K' hK' => ?_)
    have HK' := Lib.hid hK'
    clear hK'
    have h1 := (fun _ => True.intro) hBx
    go_simp
    exact HK'.out _ _ HK.out
  case hx2 =>
    intros
    intro K wx hBx hKx
    have HK := Lib.hid hKx
    clear hKx
    (try simp only [Act.put, List.setIfInBounds_toArray, List.set_cons_zero, List.set_cons_succ])
    (try simp only [Act.put, List.setIfInBounds_toArray, List.set_cons_zero, List.set_cons_succ] at HK)
    refine wpOp_step rfl (fun K' hK' => ?_)
    have HK' := Lib.hid hK'
    clear hK'
    have h1 := (fun _ => True.intro) hBx
    go_simp
    exact HK'.out _ _ HK.out
  case rest =>
  clear hq
  intro B2 wq hq
  simp only [Act.put, List.setIfInBounds_toArray, List.set_cons_zero, List.set_cons_succ]
  refine any_phase (AwS DiskAt w D aw7) 50 37 0 (by kernel_rfl) rfl (by kernel_rfl) (by kernel_rfl) (by kernel_rfl) (by kernel_rfl) hq ?_
  clear hq
  intro hne
  simp only [List.drop_succ_cons, List.drop_zero, List.take_succ_cons, List.take_zero]
  repeat (go_big_quiet_step (fail))
  go_big_quiet_step (first | (go_at_call 15; rename_i xx; exact kept_step (bw_f HC.out xx.ok.disk xx.ok.below.size)))
  repeat (go_big_quiet_step (fail))
  go_big_quiet_step (first | (go_at_call 12; exact kept_same (fill_e _)))
  go_big_quiet_step (first | (go_at_call 13; rename_i xx; exact kept_step (bw_w4 HC.out xx.ok.disk xx.ok.below.size)))
  repeat (go_big_quiet_step (fail))
  go_big_quiet_step (first | (go_at_call 13; rename_i xx; exact kept_step (bw_w5 HC.out xx.ok.disk xx.ok.below.size)))
  repeat (go_big_quiet_step (fail))
  go_big_quiet_step (first | (go_at_call 30; exact kept_of keep.out (aw_t1 HC.out)))
  repeat (go_big_quiet_step (fail))
  go_big_quiet_step (first | (go_at_call 30; exact kept_of keep.out (aw_t2 HC.out)))
  repeat (go_big_quiet_step (fail))
  go_big_quiet_step (first | (go_at_call 27; rename_i xx; exact kept_of keep.out (bw_l HC.out xx.ok.disk)))
  repeat (go_big_quiet_step (fail))
  go_big_quiet_step (first | (go_at_call 26; rename_i xx; exact kept_of keep.out (bw_n HC.out xx.ok.disk)))
  repeat (go_big_quiet_step (fail))
  refine wpQuiet_nil ?_
  clear wq
  rintro wq ⟨⟨_, hq⟩, rfl⟩
  refine ⟨by kernel_rfl, ?_⟩
  have HQ := Lib.hid hq.below
  clear hq hne keep HC
  refine NoPanic.normal ?_
  go_wp2_with fail
  go_ret
  exact ⟨rfl, HQ.out⟩
end
end Go.Proofs.Ytabjpmofakdacaa
