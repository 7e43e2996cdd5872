/-
  What the document's Print and Read (package lockageref04) answer. No conditions but that the piece may be; of Read none but a text's length.
-/
import Derived.Test.YtbdgmddlghhkjaaSecA
import Derived.Test.YtbdgmddlghhkjaaFloat
namespace Go.Proofs.Ytbdgmddlghhkjaa
open Go.RowKit

theorem run_zero (n : Nat) (hn : n ≤ 64) (w : World) : (Instr.makeSlice 61 (.int .i64 (n : Int)) (.int .i64 (n : Int))).run Try.prog w = .ok (.slice (some ⟨w.heap.size, 0, none⟩) n n) (w.alloc (.cells (madeCells #[.int .u8 0] n) 5)) := by
  obtain ⟨i0, hi, hz0, hz1, hz2⟩ := info_parts info_byte3
  have hr := run_make (P := Try.prog) w 61 5 i0 (.int .u8 0) Try.underlying61 hi hz0 .i64 .i64 n n (by omega) (by omega) (by rw [hz2]; omega) (by omega)
  simpa [hz1, Value.cells] using hr
theorem conv_zero_at (n : Nat) {w : World} {B : Nat} (h : w.heap[B]? = some (.cells (madeCells #[.int .u8 0] n) 5)) : (convert 61 9 (.slice (some ⟨B, 0, none⟩) n n)).run Try.prog w = .ok (.string (zeroB n)) w := by
  refine run_convert_bytes_arg _ 61 5 Try.underlying61 Try.underlying5 _ 0 n n (List.replicate n 0) (by simp) (fun i hi => ?_) 9 Try.underlying9
  have e : (madeCells #[Value.int .u8 0] n)[i]? = some (.int .u8 0) := by
    rw [← Array.getElem?_toList, toList_madeCells_one]
    simp [hi]
  simp [World.cell?, h, e, hi]

theorem num_is (n k : Int) (h0 : 0 ≤ n) (h1 : n < 18446744073709551616) (hk : 1 ≤ k ∧ k ≤ 8) (w : World) : Calls Try.prog 59 #[.int .u64 n, .int .i64 k] w fun e w' => e = .returned (.string (numB n k.toNat)) ∧ Below w.heap.size w w' := by
  have := refnumber_is n k.toNat h0 h1 (by omega) (by omega) w
  rw [show ((k.toNat : Nat) : Int) = k by omega] at this
  exact this

set_option maxHeartbeats 8000000 in
set_option maxRecDepth 100000 in
theorem refprint_is (p : Pc) (h : p.Ok) (hf : p.Fits) (w : World) :
    Calls Try.prog 48 #[.agg (pcC p)] w fun e w' => e = .returned (.string (printB p)) ∧ Below w.heap.size w w' := by
  have hd := h.d
  obtain ⟨k, hk⟩ : ∃ k : Nat, k = 37 - p.data.size := ⟨_, rfl⟩
  have hk2 : (37 : Int) - p.data.size = k := by omega
  have b1 := h.g0
  have b2 := h.g1
  have b3 := h.n0
  have b4 := h.n1
  have b5 := h.t0
  have b6 := h.t1
  have b7 := h.i0
  have b8 : p.idx < 65536 := by have := h.i1; omega
  have b9 := hf.s0
  have b10 := hf.s1
  have HP := Lib.hid (show printB p = numB p.stamp 8 ++ numB p.gen 4 ++ numB p.no 2 ++ numB p.idx 2 ++ numB p.tot 2 ++ numB p.data.size 1 ++ p.data ++ zeroB k ++ numB p.stamp 8 by rw [hk]; rfl)
  obtain ⟨S, hS⟩ : ∃ S : World → Prop, S = HoldS (w.alloc (.cells (pcC p) 75)) [(⟨w.heap.size, 0, none⟩, .int .u64 p.stamp), (⟨w.heap.size, 1, none⟩, .int .i64 p.gen), (⟨w.heap.size, 2, none⟩, .int .i64 p.no), (⟨w.heap.size, 3, none⟩, .int .i64 p.idx), (⟨w.heap.size, 4, none⟩, .int .i64 p.tot), (⟨w.heap.size, 5, none⟩, .string p.data)] (fun _ => True) := ⟨_, rfl⟩
  have HK := Lib.hid (show S (w.alloc (.cells (pcC p) 75)).drew by rw [hS]; exact ⟨(cc (by simp [go_sem, pcC]) (cc (by simp [go_sem, pcC]) (cc (by simp [go_sem, pcC]) (cc (by simp [go_sem, pcC]) (cc (by simp [go_sem, pcC]) (cc (by simp [go_sem, pcC]) cn)))))), trivial, (Below.refl _ _).drew⟩)
  have KS := Lib.hid (show ∀ v v', S v → Below v.heap.size v v' → S v' by rw [hS]; exact HoldS.keep keepTrue)
  have HR := Lib.hid (show ∀ W, S W → ∀ j a v, ([(⟨w.heap.size, 0, none⟩, .int .u64 p.stamp), (⟨w.heap.size, 1, none⟩, .int .i64 p.gen), (⟨w.heap.size, 2, none⟩, .int .i64 p.no), (⟨w.heap.size, 3, none⟩, .int .i64 p.idx), (⟨w.heap.size, 4, none⟩, .int .i64 p.tot), (⟨w.heap.size, 5, none⟩, .string p.data)] : List (Addr × Value))[j]? = some (a, v) → W.cell? a = some v by rw [hS]; exact fun W hW j a v hj => hW.1 (a, v) (List.mem_of_getElem? hj))
  have HB := Lib.hid (show ∀ W, S W → Below w.heap.size w W by rw [hS]; exact fun W hW => ((Below.refl w.heap.size w).alloc (Nat.le_refl _) _).trans (hW.2.2.mono (by simp)))
  clear hS h hf hk
  go_enter Try.func48, Try.ntmps48
  go_wp2_with fail
  refine wp_region_float (S := S) (N := 46) (m := 36) (v := 37) (om := _) (ov := _) (dm := 39) (dv := 40) (src := 38) (z := .string (zeroB k)) (n0 := .int .i64 k) (mk := fun B => .slice (some ⟨B, 0, none⟩) k k) (o := .cells (madeCells #[.int .u8 0] k) 5)
    ⟨rfl, rfl, by decide, rfl, rfl, by kernel_rfl, by kernel_rfl, ⟨_, Array.mem_of_getElem? (i := 0) rfl, rfl, rfl⟩, mdo_make (mk := fun B => .slice (some ⟨B, 0, none⟩) k k) (o := .cells (madeCells #[.int .u8 0] k) 5) (n0 := .int .i64 k) (src := 38) (dm := 39) (m := 36) rfl rfl rfl rfl (run_zero k (by omega)), fun W hW => KS.out _ _ hW ((Below.refl _ _).alloc (Nat.le_refl _) _), vdo_conv (mk := fun B => .slice (some ⟨B, 0, none⟩) k k) (o := .cells (madeCells #[.int .u8 0] k) 5) (z := .string (zeroB k)) (dm := 39) (dv := 40) (v := 37) rfl rfl rfl rfl fun W B hB => conv_zero_at k hB⟩ (by kernel_rfl) (by kernel_rfl) HK.out rfl ?_
  apply Exists.intro
  refine ⟨fun b hne => ?_, ?_, ?_, ?_⟩
  · simp only [floL, withOp, List.set_cons_succ, List.set_cons_zero]
    have f0 : ∀ x : HeldW (Cb S b), x.w.cell? ⟨w.heap.size, 0, none⟩ = some (.int .u64 p.stamp) := fun x => HR.out x.w x.ok.1 0 _ _ rfl
    have f1 : ∀ x : HeldW (Cb S b), x.w.cell? ⟨w.heap.size, 1, none⟩ = some (.int .i64 p.gen) := fun x => HR.out x.w x.ok.1 1 _ _ rfl
    have f2 : ∀ x : HeldW (Cb S b), x.w.cell? ⟨w.heap.size, 2, none⟩ = some (.int .i64 p.no) := fun x => HR.out x.w x.ok.1 2 _ _ rfl
    have f3 : ∀ x : HeldW (Cb S b), x.w.cell? ⟨w.heap.size, 3, none⟩ = some (.int .i64 p.idx) := fun x => HR.out x.w x.ok.1 3 _ _ rfl
    have f4 : ∀ x : HeldW (Cb S b), x.w.cell? ⟨w.heap.size, 4, none⟩ = some (.int .i64 p.tot) := fun x => HR.out x.w x.ok.1 4 _ _ rfl
    have f5 : ∀ x : HeldW (Cb S b), x.w.cell? ⟨w.heap.size, 5, none⟩ = some (.string p.data) := fun x => HR.out x.w x.ok.1 5 _ _ rfl
    have hns : ∀ (n : Int) (k : Nat), (numB n k).size = k := numB_size
    have hzs := zeroB_size k
    have e8 : Int.toNat 8 = 8 := rfl
    have e4 : Int.toNat 4 = 4 := rfl
    have e2 : Int.toNat 2 = 2 := rfl
    have e1 : Int.toNat 1 = 1 := rfl
    have KB := Lib.hid (Cb.keep (b := b) KS.out)

    repeat (go_big_quiet_step (first | (go_at_call 59; refine kept_of KB.out (num_is _ _ (by omega) (by omega) (by omega) _))))
    exact wpQuiet_nil rfl
  · rfl
  · rfl
  · intro W hW
    have hb := HB.out W hW
    refine ⟨?_, fun x => ?_⟩
    · go_wp2_with fail
      go_ret
      exact ⟨ret_str HP.out.symm, hb⟩
    · simp only [Act.put, List.setIfInBounds_toArray, List.set_cons_zero, List.set_cons_succ]
      go_wp2_with fail
      go_ret
      exact ⟨ret_str HP.out.symm, hb⟩
end Go.Proofs.Ytbdgmddlghhkjaa
