/-
  What the program's disk (package disk) does where it is made, armed, started; and what it asks behind a write that was put into its cache. No conditions but how it lies in memory.
-/
import Derived.Test.YtabjpmofakdacaaDiskL
namespace Go.Proofs.Ytabjpmofakdacaa
open Go.RowKit

theorem made_flat (zs : List Value) (m : Nat) (hm : zs.length = m) (h0 : 0 < m) : ∀ n, madeCells zs.toArray (n * m) = ((List.replicate n zs).flatten).toArray := by
  intro n
  apply Array.toList_inj.1
  induction n with
  | zero => simp [madeCells]
  | succ n ih =>
    have e : (madeCells zs.toArray (n * m + m)).toList = (madeCells zs.toArray (n * m)).toList ++ zs := by
      refine List.ext_getElem? fun j => ?_
      simp only [madeCells, Array.toList_map, Array.toList_range, List.size_toArray, hm]
      rw [List.getElem?_append, List.length_map, List.length_range, List.getElem?_map, List.getElem?_map]
      by_cases h1 : j < n * m
      · rw [if_pos h1, List.getElem?_range (by omega), List.getElem?_range h1]
      · rw [if_neg h1]
        by_cases h2 : j < n * m + m
        · rw [List.getElem?_range h2]
          have hj : j % m = j - n * m := by
            obtain ⟨k, rfl⟩ : ∃ k, j = n * m + k := ⟨j - n * m, by omega⟩
            rw [Nat.add_comm, Nat.add_mul_mod_self_right, Nat.mod_eq_of_lt (by omega)]
            omega
          have hk : j - n * m < zs.length := by omega
          simp only [Option.map_some, hj]
          simp [hk]
        · rw [List.getElem?_eq_none (by simp; omega), List.getElem?_eq_none (by omega)]
          rfl
    rw [Nat.add_mul, Nat.one_mul, e, ih, List.replicate_succ']
    simp

def secZ : List Value := List.replicate 64 (.int .u8 0) ++ [.int .i64 0]
theorem info_sec : (Try.prog.info? 74).map (fun i => (i.zero, i.size, i.bytes)) = some (some (.agg secZ.toArray), 65, 72) := by kernel_rfl
theorem zero_bytes : bytesV (zeroB 64) = List.replicate 64 (.int .u8 0) := by rfl
theorem flat_repl (n : Nat) : (List.replicate n secZ).flatten = (List.replicate n ((zeroB 64, 0) : ByteArray × Int)).flatMap secC := by
  rw [List.flatMap_replicate]
  simp [secC, zero_bytes, secZ]

section
variable {w : World} {base D : Nat} {st : Dk}

/-- What is asked behind a write: the armed power has one write less to go. -/
def dueS (st : Dk) : Dk := { st with armed := if 0 < st.armed then st.armed - 1 else st.armed }

set_option maxHeartbeats 400000 in
theorem ddue_is (h : DiskAt w base D st) :
    Calls Try.prog 34 #[.pointer (some ⟨D, 0, none⟩)] w fun e w' => e = .returned (.bool (decide (st.armed = 1))) ∧ DiskAt w' base D (dueS st) ∧ OnlyT base progT w w' ∧ w'.cell? ⟨D, 4, none⟩ = w.cell? ⟨D, 4, none⟩ := by
  have H := Lib.hid h
  obtain ⟨S, cv, secs, b, hB, hs, hb⟩ := h
  have hO := Lib.hid hs
  have HB := Lib.hid hB
  have HBB := Lib.hid hb
  have c3 := hB.cell 3
  have f3 := hB.free 3
  simp at c3
  have a0 := hs.ok.armed0
  have a1 := hs.ok.armed1
  clear hB hs hb
  by_cases ha : st.armed = 0
  · have hab : (st.armed == 0) = true := by simpa using ha
    have hd := Lib.hid (show dueS st = st by unfold dueS; rw [if_neg (by omega)])
    go_enter Try.func34, Try.ntmps34
    go_wp2_with fail
    go_ret
    exact ⟨ret_bool (by simp; omega), by rw [hd.out]; exact H.out, OnlyT.refl, rfl⟩
  · have hab : (st.armed == 0) = false := by simpa using ha
    have hd := Lib.hid (show dueS st = { st with armed := st.armed - 1 } by unfold dueS; rw [if_pos (by omega)])
    go_enter Try.func34, Try.ntmps34
    go_wp2_with fail
    go_ret
    have HB2 := HB.out.set 3 (.int .i64 (st.armed - 1))
    refine ⟨ret_bool (by rw [Bool.eq_iff_iff]; simp; omega), ?_, OnlyT.refl.setCell HB.out.1 (by decide) HB.out.2.2.2.1, by rw [HB2.cell 4, HB.out.cell 4]; simp⟩
    rw [hd.out]
    refine ⟨S, cv, secs, b, by simpa using HB2, ⟨hO.out.kept, hO.out.last, { hO.out.ok with armed0 := by simp only; omega, armed1 := by simp only; omega }⟩, fun h => HBB.out.1 (by simp only at h; omega), HBB.out.2⟩

set_option maxHeartbeats 400000 in
theorem darm_is (h : DiskAt w base D st) (a b : Int) (ha : a ≤ 9223372036854775807) (hb0 : 0 ≤ b) (hb1 : b < 18446744073709551616) :
    Calls Try.prog 19 #[.pointer (some ⟨D, 0, none⟩), .agg #[.int .i64 a, .int .u64 b]] w fun e w' => e = .returned (.tuple #[]) ∧ DiskAt w' base D (armS st a b) ∧ OnlyT base progT w w' := by
  obtain ⟨S, cv, secs, b', hB, hs, hb⟩ := h
  have hO := Lib.hid hs
  have HB := Lib.hid (hB.later ((Below.refl _ _).alloc (Nat.le_refl _) (.cells #[.int .i64 a, .int .u64 b] 32)))
  have c3 := HB.out.cell 3
  have f3 := HB.out.free 3
  have c4 := HB.out.cell 4
  have f4 := HB.out.free 4
  simp at c3 c4
  clear hB hs hb
  by_cases hm : a < 0
  all_goals
    go_enter Try.func19, Try.ntmps19
    go_wp2
    go_region
    all_goals
      go_end0
      have h1 := HB.out.set 3 (.int .i64 (max a 0))
      have h2 := h1.set 4 (.int .u64 b)
      have em : max a 0 = (if a < 0 then 0 else a) := by split <;> omega
      first
        | rw [if_pos (by omega)] at em
        | rw [if_neg (by omega)] at em
      rw [em] at h1 h2
      refine ⟨rfl, ⟨S, cv, secs, b, ?_, ⟨hO.out.kept, hO.out.last, { hO.out.ok with armed0 := by simp only [armS]; omega, armed1 := by simp only [armS]; omega, bits0 := hb0, bits1 := hb1 }⟩, fun _ => rfl, hb0, hb1⟩, ?_⟩
      · simp only [armS, em]
        simp at h2 ⊢
        exact h2
      · exact (((OnlyT.refl.alloc _).trans (OnlyT.of_below (Below.refl _ _).drew)).setCell HB.out.1 (by decide) HB.out.2.2.2.1).setCell h1.1 (by decide) h1.2.2.2.1

theorem diskAt_bits (h : DiskAt w base D { st with armed := 0, bits := 0 }) (h0 : 0 ≤ st.bits) (h1 : st.bits < 18446744073709551616) : DiskAt w base D { st with armed := 0 } := by
  obtain ⟨S, cv, secs, b, hB, hs, hb⟩ := h
  exact ⟨S, cv, secs, b, hB, ⟨hs.kept, hs.last, { hs.ok with bits0 := h0, bits1 := h1 }⟩, fun h => absurd h (by simp), hb.2⟩

set_option maxHeartbeats 400000 in
theorem dstart_is (h : DiskAt w base D st) :
    Calls Try.prog 23 #[.pointer (some ⟨D, 0, none⟩)] w fun e w' => e = .returned (.tuple #[]) ∧ DiskAt w' base D (startS st) ∧ OnlyT base progT w w' := by
  obtain ⟨S, cv, secs, b, hB, hs, hb⟩ := h
  have c5 := hB.cell 5
  have f5 := hB.free 5
  simp at c5
  have HD := Lib.hid (show DiskAt (w.setCell ⟨D, 5, none⟩ (.bool false)) base D { st with off := false } from ⟨S, cv, secs, b, by simpa using hB.set 5 (.bool false), ⟨hs.kept, hs.last, { hs.ok with }⟩, hb⟩)
  have HO := Lib.hid ((OnlyT.refl (base := base) (T := progT) (w := w)).setCell (i := 5) (v := .bool false) hB.1 (by decide) hB.2.2.2.1)
  have H0 := Lib.hid hs.ok.bits0
  have H1 := Lib.hid hs.ok.bits1
  clear hB hs hb
  go_enter Try.func23, Try.ntmps23
  go_wp2_with fail
  refine (darm_is HD.out 0 0 (by omega) (by omega) (by omega)).mono ?_
  rintro e w2 ⟨rfl, hd2, ho2⟩
  go_wp2_with fail
  go_end0
  exact ⟨rfl, diskAt_bits hd2 H0.out H1.out, HO.out.trans ho2⟩

set_option maxHeartbeats 400000 in
theorem dnew_no (n : Int) (w : World) (hn : n < 1 ∨ 4096 < n) :
    Calls Try.prog 10 #[.int .i64 n] w fun e w' => e = .returned (.tuple #[.pointer none, .int .i64 1]) ∧ Below w.heap.size w w' := by
  rcases hn with hn | hn
  · go_enter Try.func10, Try.ntmps10
    go_wp2_with fail
    go_ret2
    exact ⟨rfl, Below.refl _ _⟩
  · have h1 : ¬ n < 1 := by omega
    go_enter Try.func10, Try.ntmps10
    go_wp2_with fail
    go_ret2
    exact ⟨rfl, Below.refl _ _⟩

set_option maxHeartbeats 400000 in
theorem dnew_yes (n : Nat) (w : World) (h1 : 1 ≤ n) (h2 : n ≤ 4096) :
    Calls Try.prog 10 #[.int .i64 n] w fun e w' => ∃ D, e = .returned (.tuple #[.pointer (some ⟨D, 0, none⟩), .int .i64 0]) ∧ DiskAt w' w.heap.size D (newS n) ∧ Below w.heap.size w w' := by
  obtain ⟨i0, hi0, hz0, hz1, hz2⟩ := info_parts info_sec
  have hmk := run_make (P := Try.prog) w 62 74 i0 _ Try.underlying62 hi0 hz0 .i64 .i64 n n (by omega) (by omega) (by rw [hz2]; omega) (by omega)
  rw [hz1, Int.toNat_natCast] at hmk
  have e0 : madeCells (Value.agg secZ.toArray).cells (n * 65) = ((List.replicate n ((zeroB 64, 0) : ByteArray × Int)).flatMap secC).toArray := by
    rw [show (Value.agg secZ.toArray).cells = secZ.toArray from rfl, made_flat secZ 65 (by simp [secZ]) (by omega), flat_repl]
  rw [e0] at hmk
  obtain ⟨cs, hcs⟩ : ∃ cs, cs = ((List.replicate n ((zeroB 64, 0) : ByteArray × Int)).flatMap secC).toArray := ⟨_, rfl⟩
  rw [← hcs] at hmk
  have HCS := Lib.hid hcs
  clear hcs e0 hi0 hz0 hz1 hz2
  have n1 : ¬ (n : Int) < 1 := by omega
  have n2 : ¬ (4096 : Int) < n := by omega
  go_enter Try.func10, Try.ntmps10
  go_wp2_with fail
  go_ret2
  have hS : ((w.alloc (.cells cs 74)).alloc (.cells #[.slice (some ⟨w.heap.size, 0, none⟩) n n, .slice none 0 0, .int .i64 0, .int .i64 0, .int .u64 0, .bool false] 65)).heap[w.heap.size]? = some (.cells cs 74 (0, 0)) := by
    show ((w.heap.push _).push _)[w.heap.size]? = _
    rw [Array.getElem?_push, if_neg (by simp), Array.getElem?_push, if_pos rfl]
  have hD : ((w.alloc (.cells cs 74)).alloc (.cells #[.slice (some ⟨w.heap.size, 0, none⟩) n n, .slice none 0 0, .int .i64 0, .int .i64 0, .int .u64 0, .bool false] 65)).heap[w.heap.size + 1]? = some (.cells #[.slice (some ⟨w.heap.size, 0, none⟩) n n, .slice none 0 0, .int .i64 0, .int .i64 0, .int .u64 0, .bool false] 65 (0, 0)) := by
    show ((w.heap.push _).push _)[w.heap.size + 1]? = _
    rw [Array.getElem?_push, if_pos (by simp)]
  refine ⟨w.heap.size + 1, rfl, ⟨w.heap.size, .slice none 0 0, List.replicate n (zeroB 64, 0), 0, ⟨?_, ?_, World.ownsRow_nil _ _ _ _, by omega, Nat.le_refl _⟩, ⟨?_, fun i x hx => ?_, newS_ok h2⟩, fun _ => rfl, Int.le_refl _, by decide⟩, ((Below.refl _ _).alloc (Nat.le_refl _) _).alloc (by simp) _⟩
  · simpa [newS] using hD
  · rw [hS, HCS.out]
  · simp [newS]
  · obtain ⟨_, rfl⟩ := List.mem_replicate.1 (List.mem_of_getElem? hx)
    exact .inl ⟨rfl, fun _ => rfl⟩
end
end Go.Proofs.Ytabjpmofakdacaa
