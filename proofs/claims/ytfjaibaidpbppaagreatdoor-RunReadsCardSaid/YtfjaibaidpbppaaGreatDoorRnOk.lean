/-
  The landed Run is what layer 13's laws ask. No conditions.
-/
import Derived.Test.YtfjaibaidpbppaaGreatDoorRuU
namespace Go.Proofs.YtfjaibaidpbppaaGreatDoor
open Go.RowKit

section
variable (w : World)
set_option maxHeartbeats 1000000 in
set_option maxRecDepth 100000 in
theorem no_status : Calls Tryz.prog 16 #[.pointer none] w fun e w' => e = .returned (.int .i64 2) ∧ Below w.heap.size w w' := by
  go_enter Tryz.func16, Tryz.ntmps16
  go_wp2_with fail
  go_ret
  exact ⟨rfl, Below.refl _ _⟩
set_option maxHeartbeats 1000000 in
set_option maxRecDepth 100000 in
theorem no_has (i : Int) : Calls Tryz.prog 57 #[.pointer none, .int .i64 i] w fun e w' => e = .returned (.bool false) ∧ Below w.heap.size w w' := by
  go_enter Tryz.func57, Tryz.ntmps57
  go_wp2_with fail
  go_ret
  exact ⟨rfl, Below.refl _ _⟩
set_option maxHeartbeats 1000000 in
set_option maxRecDepth 100000 in
theorem no_wrong (i k s : Int) : Calls Tryz.prog 40 #[.pointer none, .int .i64 i, .int .i64 k, .int .i64 s] w fun e w' => e = .returned (.int .i64 8) ∧ Below w.heap.size w w' := by
  go_enter Tryz.func40, Tryz.ntmps40
  go_wp2_with fail
  go_ret
  exact ⟨rfl, Below.refl _ _⟩
set_option maxHeartbeats 1000000 in
set_option maxRecDepth 100000 in
theorem no_settle (now : Int) : Calls Tryz.prog 11 #[.pointer none, .int .i64 now] w fun e w' => e = .returned (.tuple #[]) ∧ Below w.heap.size w w' := by
  have HC := Lib.hid (fun W : World => no_status W)
  go_enter Tryz.func11, Tryz.ntmps11
  go_wp2_with fail
  refine (HC.out _).mono ?_
  rintro e w1 ⟨rfl, hb1⟩
  have HB1 := Lib.hid hb1
  clear hb1
  go_wp2_with fail
  exact bodyPost_ret (v := .tuple #[]) (by simp [results, Tryz.results11, go_sem]) rfl ⟨rfl, HB1.out⟩
set_option maxHeartbeats 1000000 in
set_option maxRecDepth 100000 in
theorem no_best (now : Int) : Calls Tryz.prog 22 #[.pointer none, .int .i64 now] w fun e w' => e = .returned (.tuple #[.int .i64 (-1), .int .i64 0, .bool false]) ∧ Below w.heap.size w w' := by
  have HC := Lib.hid (fun W : World => no_status W)
  go_enter Tryz.func22, Tryz.ntmps22
  go_wp2_with fail
  refine (HC.out _).mono ?_
  rintro e w1 ⟨rfl, hb1⟩
  have HB1 := Lib.hid hb1
  clear hb1
  go_wp2_with fail
  exact bodyPost_ret (results_tmp3 rfl _ _ _) rfl ⟨rfl, HB1.out⟩
set_option maxHeartbeats 1000000 in
set_option maxRecDepth 100000 in
theorem no_take (i now wk ls : Int) : Calls Tryz.prog 12 #[.pointer none, .int .i64 i, .int .i64 now, .int .i64 wk, .int .i64 ls] w fun e w' => e = .returned (.int .i64 8) ∧ Below w.heap.size w w' := by
  have HC := Lib.hid (fun W : World => no_wrong W i 0 1)
  go_enter Tryz.func12, Tryz.ntmps12
  go_wp2_with fail
  refine (HC.out _).mono ?_
  rintro e w1 ⟨rfl, hb1⟩
  have HB1 := Lib.hid hb1
  clear hb1
  go_wp2_with fail
  go_ret
  exact ⟨rfl, HB1.out⟩
set_option maxHeartbeats 1000000 in
set_option maxRecDepth 100000 in
theorem no_find (now wk ls : Int) : Calls Tryz.prog 23 #[.pointer none, .int .i64 now, .int .i64 wk, .int .i64 ls] w fun e w' => e = .returned (.tuple #[.int .i64 (-1), .bool false]) ∧ Below w.heap.size w w' := by
  have HC := Lib.hid (fun W : World => no_status W)
  go_enter Tryz.func23, Tryz.ntmps23
  go_wp2_with fail
  refine (HC.out _).mono ?_
  rintro e w1 ⟨rfl, hb1⟩
  have HB1 := Lib.hid hb1
  clear hb1
  go_wp2_with fail
  exact bodyPost_ret (results_tmp2 rfl _ _ _) rfl ⟨rfl, HB1.out⟩
set_option maxHeartbeats 1000000 in
set_option maxRecDepth 100000 in
theorem no_complete (i now : Int) (s : ByteArray) : Calls Tryz.prog 13 #[.pointer none, .int .i64 i, .int .i64 now, .string s] w fun e w' => e = .returned (.int .i64 8) ∧ Below w.heap.size w w' := by
  have HC := Lib.hid (fun W : World => no_wrong W i 0 2)
  go_enter Tryz.func13, Tryz.ntmps13
  go_wp2_with fail
  refine (HC.out _).mono ?_
  rintro e w1 ⟨rfl, hb1⟩
  have HB1 := Lib.hid hb1
  clear hb1
  go_wp2_with fail
  go_ret
  exact ⟨rfl, HB1.out⟩
set_option maxHeartbeats 1000000 in
set_option maxRecDepth 100000 in
theorem no_miss (i now : Int) : Calls Tryz.prog 14 #[.pointer none, .int .i64 i, .int .i64 now] w fun e w' => e = .returned (.int .i64 8) ∧ Below w.heap.size w w' := by
  have HC := Lib.hid (fun W : World => no_wrong W i 0 2)
  go_enter Tryz.func14, Tryz.ntmps14
  go_wp2_with fail
  refine (HC.out _).mono ?_
  rintro e w1 ⟨rfl, hb1⟩
  have HB1 := Lib.hid hb1
  clear hb1
  go_wp2_with fail
  go_ret
  exact ⟨rfl, HB1.out⟩
set_option maxHeartbeats 1000000 in
set_option maxRecDepth 100000 in
theorem no_beat (i now : Int) : Calls Tryz.prog 26 #[.pointer none, .int .i64 i, .int .i64 now] w fun e w' => e = .returned (.int .i64 8) ∧ Below w.heap.size w w' := by
  have HC := Lib.hid (fun W : World => no_wrong W i 0 2)
  go_enter Tryz.func26, Tryz.ntmps26
  go_wp2_with fail
  refine (HC.out _).mono ?_
  rintro e w1 ⟨rfl, hb1⟩
  have HB1 := Lib.hid hb1
  clear hb1
  go_wp2_with fail
  go_ret
  exact ⟨rfl, HB1.out⟩
set_option maxHeartbeats 1000000 in
set_option maxRecDepth 100000 in
theorem no_vote (i who : Int) (is : Bool) : Calls Tryz.prog 24 #[.pointer none, .int .i64 i, .int .i64 who, .bool is] w fun e w' => e = .returned (.tuple #[.bool false, .int .i64 8]) ∧ Below w.heap.size w w' := by
  have HC := Lib.hid (fun W : World => no_wrong W i 1 1)
  go_enter Tryz.func24, Tryz.ntmps24
  go_wp2_with fail
  refine (HC.out _).mono ?_
  rintro e w1 ⟨rfl, hb1⟩
  have HB1 := Lib.hid hb1
  clear hb1
  go_wp2_with fail
  exact bodyPost_ret (results_tmp2 rfl _ _ _) rfl ⟨rfl, HB1.out⟩
set_option maxHeartbeats 1000000 in
set_option maxRecDepth 100000 in
theorem no_let (i now : Int) : Calls Tryz.prog 25 #[.pointer none, .int .i64 i, .int .i64 now] w fun e w' => e = .returned (.tuple #[.string .empty, .int .i64 8]) ∧ Below w.heap.size w w' := by
  have HC := Lib.hid (fun W : World => no_wrong W i 1 1)
  go_enter Tryz.func25, Tryz.ntmps25
  go_wp2_with fail
  refine (HC.out _).mono ?_
  rintro e w1 ⟨rfl, hb1⟩
  have HB1 := Lib.hid hb1
  clear hb1
  go_wp2_with fail
  exact bodyPost_ret (results_tmp2 rfl _ _ _) rfl ⟨rfl, HB1.out⟩
set_option maxHeartbeats 1000000 in
set_option maxRecDepth 100000 in
theorem no_cancel : Calls Tryz.prog 27 #[.pointer none] w fun e w' => e = .returned (.int .i64 8) ∧ Below w.heap.size w w' := by
  go_enter Tryz.func27, Tryz.ntmps27
  go_wp2_with fail
  go_ret
  exact ⟨rfl, Below.refl _ _⟩
set_option maxHeartbeats 1000000 in
set_option maxRecDepth 100000 in
theorem no_input (i : Int) : Calls Tryz.prog 28 #[.pointer none, .int .i64 i] w fun e w' => e = .returned (.string .empty) ∧ Below w.heap.size w w' := by
  have HC := Lib.hid (fun W : World => no_has W i)
  go_enter Tryz.func28, Tryz.ntmps28
  go_wp2_with fail
  refine (HC.out _).mono ?_
  rintro e w1 ⟨rfl, hb1⟩
  have HB1 := Lib.hid hb1
  clear hb1
  go_wp2_with fail
  go_ret
  exact ⟨rfl, HB1.out⟩
set_option maxHeartbeats 1000000 in
set_option maxRecDepth 100000 in
theorem no_state (i : Int) : Calls Tryz.prog 29 #[.pointer none, .int .i64 i] w fun e w' => e = .returned (.int .i64 (-1)) ∧ Below w.heap.size w w' := by
  have HC := Lib.hid (fun W : World => no_has W i)
  go_enter Tryz.func29, Tryz.ntmps29
  go_wp2_with fail
  refine (HC.out _).mono ?_
  rintro e w1 ⟨rfl, hb1⟩
  have HB1 := Lib.hid hb1
  clear hb1
  go_wp2_with fail
  go_ret
  exact ⟨rfl, HB1.out⟩
set_option maxHeartbeats 1000000 in
set_option maxRecDepth 100000 in
theorem no_copy : Calls Tryz.prog 15 #[.pointer none] w fun e w' => e = .returned (.pointer none) ∧ Below w.heap.size w w' := by
  go_enter Tryz.func15, Tryz.ntmps15
  go_wp2_with fail
  go_ret
  exact ⟨rfl, Below.refl _ _⟩
set_option maxHeartbeats 1000000 in
set_option maxRecDepth 100000 in
theorem no_write (P : Nat) : Calls Tryz.prog 45 #[.pointer none, ptrV P] w fun e w' => e = .returned (.tuple #[]) ∧ Below w.heap.size w w' := by
  go_enter Tryz.func45, Tryz.ntmps45
  go_wp2_with fail
  exact bodyPost_ret (v := .tuple #[]) (by simp [results, Tryz.results45, go_sem]) rfl ⟨rfl, Below.refl _ _⟩
set_option maxHeartbeats 1000000 in
set_option maxRecDepth 100000 in
theorem no_pipe : Calls Tryz.prog 21 #[.pointer none] w fun e w' => e = .returned (.agg #[.string .empty, .slice none 0 0]) ∧ Below w.heap.size w w' := by
  have HM := Lib.hid (made_at w (.cells zP 24))
  have HB := Lib.hid ((Below.refl w.heap.size w).alloc (Nat.le_refl _) (.cells zP 24))
  go_enter Tryz.func21, Tryz.ntmps21
  go_upto_region 1 with fail
  generalize hW0 : w.alloc _ = W0 at *
  clear hW0
  have z0 := cellH HM.out 0
  have z1 := cellH HM.out 1
  have zf := freeH HM.out
  simp at z0 z1
  go_wp2_with fail
  exact bodyPost_ret (results_cell_row (fn := Tryz.f21) rfl _ _ w.heap.size 24 #[.string .empty, .slice none 0 0] (0, 0) _ rfl (by rw [row_set (row_set HM.out)]; rfl) Tryz.underlying24 rfl info_pipe3) rfl ⟨rfl, (HB.out.setCell (p := ⟨w.heap.size, 0, none⟩) (Nat.le_refl _) _).setCell (p := ⟨w.heap.size, 1, none⟩) (Nat.le_refl _) _⟩
end
theorem run_no : RunNo where
  settle := no_settle
  status := no_status
  best := no_best
  take := no_take
  find := no_find
  complete := no_complete
  miss := no_miss
  beat := no_beat
  vote := no_vote
  let_ := no_let
  cancel := no_cancel
  input := no_input
  state := no_state
  pipe := no_pipe
  copy := no_copy
  write := no_write
section
variable {w w' W : World} {X M : List Nat} {R B g c d : Nat} {z z' : RunP} {vs : List Value} {v : Value} {e : Ending}
theorem RcV.rnW (h : RcV w X R B g c d z v e w') : e = .returned v ∧ RnW rnAt w [R, B] X R z w' := by
  obtain ⟨rfl, X', vs', h1, h2, h3⟩ := h
  exact ⟨rfl, [R, B], X', ⟨B, g, c, d, vs', rfl, h1⟩, h2, New.refl, h3⟩
theorem RcT.rnW (h : RcT w X R B g c d z vs e w') : e = .returned (.tuple #[]) ∧ RnW rnAt w [R, B] X R z w' := by
  obtain ⟨rfl, h1, h2⟩ := h
  exact ⟨rfl, [R, B], X, ⟨B, g, c, d, vs, rfl, h1⟩, h2, New.refl, New.refl⟩
theorem RunIn.small {z : RunP} (h : RunOf z) : ∀ p ∈ z.ps, SmallT p.tr := fun p hp => by
  have ht := h.tr p hp
  have h1 := ht.st
  have h2 := ht.sn
  have h3 := ht.ms
  have h4 := ht.wk
  have h5 := ht.ls
  have h6 := ht.un
  constructor <;> unfold smI <;> omega
theorem milI.sm {n : Int} (h : milI n) : smI n := by unfold milI at h; unfold smI; omega
theorem RunIn.l8 {z : RunP} (h : RunOf z) : z.ps.length ≤ 8 := by have h1 := h.len; have h2 : z.ts.length ≤ 8 := h.may.right.few.2; omega
theorem RunIn.l1 {z : RunP} (h : RunOf z) : 1 ≤ z.ps.length := by have h1 := h.len; have h2 : 1 ≤ z.ts.length := h.may.right.few.1; omega
end
theorem tks_nil (w : World) : TksAt w none [] := fun h => absurd h (Nat.lt_irrefl _)
theorem run_ok : RunOk rnAt where
  keep := fun h ho hd => h.keep ho hd
  low := fun h => h.low
  apart := fun h => h.apart
  new := fun hA hm _ => rnew_is hA hm _
  newNo := fun w => rnew_no (tks_nil w) ⟨(fun t ht => by cases ht), by decide, by decide, (fun t ht => by cases ht)⟩ (fun h => by have := h.right.few.1; exact absurd this (by decide)) 0
  settle := fun h hz _ => by
    obtain ⟨B, g, c, d, vs, rfl, h⟩ := h
    exact (rsettle_is h hz.may hz.len (RunIn.small hz) (fun p hp => (hz.tr p hp).sn) _).mono fun _ _ g => g.rnW
  status := fun h hz => by
    obtain ⟨B, g, c, d, vs, rfl, h⟩ := h
    exact rstatus_is h (RunIn.l8 hz)
  take := fun i h hz hn _ _ _ _ => by
    obtain ⟨B, g, c, d, vs, rfl, h⟩ := h
    exact (rtake_is h hz.may hz.len i _ _ _ hn.sm).mono fun _ _ g => g.rnW
  complete := fun i h hz _ hs _ _ => by
    obtain ⟨B, g, c, d, vs, rfl, h⟩ := h
    exact (rcomplete_is h hz.may hz.len i _ _ hs).mono fun _ _ g => g.rnW
  miss := fun i h hz hn _ _ => by
    obtain ⟨B, g, c, d, vs, rfl, h⟩ := h
    exact (rmiss_is h hz.may hz.len (RunIn.small hz) i _ hn.sm).mono fun _ _ g => g.rnW
  beat := fun i h hz hn _ _ => by
    obtain ⟨B, g, c, d, vs, rfl, h⟩ := h
    exact (rbeat_is h hz.may hz.len (RunIn.small hz) i _ hn.sm).mono fun _ _ g => g.rnW
  copy := fun h hz => by
    obtain ⟨B, g, c, d, vs, rfl, h⟩ := h
    exact rcopy_is h (RunIn.l1 hz) (RunIn.l8 hz)
  write := fun h hz hw hl hm hd hT => by
    obtain ⟨B, g, c, d, vs, rfl, h⟩ := h
    obtain ⟨O, h1, h2⟩ := hw
    refine (rwrite_is h1 h ⟨fun hi => ?_, fun hi => ?_, fun i hx hi => ?_⟩ hz hT).mono fun _ _ g => wroteB hl h2 g
    · have := h2 _ hi
      have := hd _ (.inl (List.mem_cons_self ..))
      omega
    · have := h2 _ hi
      have := hd _ (.inl (List.mem_cons_of_mem _ (List.mem_cons_self ..)))
      omega
    · have := h2 _ hi
      have := hd _ (.inr hx)
      omega
  best := fun h hz _ => by
    obtain ⟨B, g, c, d, vs, rfl, h⟩ := h
    exact rbest_is h hz.may hz.len _
  find := fun h hz _ _ _ => by
    obtain ⟨B, g, c, d, vs, rfl, h⟩ := h
    exact rfind_is h hz.may hz.len _ _ _
  vote := fun i who is h hz _ _ => by
    obtain ⟨B, g, c, d, vs, rfl, h⟩ := h
    exact (rvote_is h hz.may hz.len hz.ris i who is).mono fun _ _ g => g.rnW
  let_ := fun i h hz _ _ _ => by
    obtain ⟨B, g, c, d, vs, rfl, h⟩ := h
    exact (rlet_is h hz.may hz.len i _).mono fun _ _ g => g.rnW
  cancel := fun h hz => by
    obtain ⟨B, g, c, d, vs, rfl, h⟩ := h
    exact (rcancel_is h (RunIn.l8 hz)).mono fun _ _ g => g.rnW
  input := fun i h hz hV _ _ => by
    obtain ⟨B, g, c, d, vs, rfl, h⟩ := h
    exact rinput_is h hz.may hz.len hz.out hV i
  state := fun i h hz _ _ => by
    obtain ⟨B, g, c, d, vs, rfl, h⟩ := h
    exact (rstate_is h i).mono fun _ _ ⟨h1, h2⟩ => ⟨h1, h2 ▸ Below.refl _ _⟩
  pipe := fun h hz => by
    obtain ⟨B, g, c, d, vs, rfl, h⟩ := h
    exact rnpipe_is h hz.may
  read := fun hr hV hS => rread_is hr hV hS
end Go.Proofs.YtfjaibaidpbppaaGreatDoor
