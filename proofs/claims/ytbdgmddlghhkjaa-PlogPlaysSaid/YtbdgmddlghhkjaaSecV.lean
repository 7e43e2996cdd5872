/-
  What the program's parts (package sector) answers: what 64 bytes say. No conditions but the length.
-/
import Derived.Test.YtbdgmddlghhkjaaSecU
namespace Go.Proofs.Ytbdgmddlghhkjaa
open Go.RowKit

/-- What 64 bytes say, with no more than 37 bytes of data. -/
def partsP (s : ByteArray) : Pc := ⟨valB (s.extract 0 8), valB (s.extract 8 12), valB (s.extract 12 14), valB (s.extract 14 16), valB (s.extract 16 18), s.extract 19 (19 + (min (valB (s.extract 18 19)) 37).toNat)⟩

theorem row_num {w : World} {g : Nat} {s : ByteArray} {t : TypeId} {fr : Nat × Nat} (h : w.heap[g]? = some (.cells (bytesV s).toArray t fr)) (off len cap : Nat) (h8 : len ≤ 8) (hfit : off + len ≤ s.size) :
    Calls Try.prog 60 #[.slice (some ⟨g, off, none⟩) len cap] w fun e w' => e = .returned (.int .u64 (valB (s.extract off (off + len)))) ∧ w = w' := by
  have hl : (bl (s.extract off (off + len))).length = len := by rw [bl_len, ByteArray.size_extract]; omega
  have := number_is g off cap (bl (s.extract off (off + len))) (by omega) w (fun i b hb => by
    have hi : i < len := by have := (List.getElem?_eq_some_iff.1 hb).1; omega
    rw [bl_mid, mid, List.getElem?_take_of_lt hi, List.getElem?_drop] at hb
    rw [cellH h, List.getElem?_toArray, bytesV_bl, cellsB, List.getElem?_map, hb]
    rfl)
  rw [hl] at this
  exact this
theorem conv_at {w : World} {g cap : Nat} {s : ByteArray} {t : TypeId} {fr : Nat × Nat} (h : w.heap[g]? = some (.cells (bytesV s).toArray t fr)) (off n : Nat) (hn : off + n ≤ s.size) : (convert 61 9 (.slice (some ⟨g, off, none⟩) n cap)).run Try.prog w = .ok (.string (s.extract off (off + n))) w := by
  have hl : (bl (s.extract off (off + n))).length = n := by rw [bl_len, ByteArray.size_extract]; omega
  have := run_convert_bytes_back (P := Try.prog) w 61 9 5 ⟨g, off, none⟩ cap (bl (s.extract off (off + n))) Try.underlying61 Try.underlying5 Try.underlying9 (fun i hj => by
    have hi : i < n := by omega
    have hb := List.getElem?_eq_getElem hj
    generalize (bl (s.extract off (off + n)))[i] = b at hb ⊢
    rw [bl_mid, mid, List.getElem?_take_of_lt hi, List.getElem?_drop] at hb
    rw [Addr.add_lit, cellH h, List.getElem?_toArray, bytesV_bl, cellsB, List.getElem?_map, hb]
    rfl)
  rw [hl] at this
  rw [this]
  exact congrArg (fun x => Result.ok (Value.string x) w) (ofL_bl _)

/-- The smaller one, kept whole in a walk. -/
def minI (x y : Int) : Int := if y < x then y else x
@[go_sem ↓] theorem run_minI {P : Program} (w : World) (ts : Array TypeId) (t : TypeId) (k k' : IntKind) (x y : Int) : (Builtin.min_ ts t #[.int k x, .int k' y]).run P w = .ok (.int k (minI x y)) w := run_min_int2 w ts t k k' x y

/-- What lies in memory while a sector is taken apart. -/
structure PaW (w : World) (s : ByteArray) (W : World) : Prop where
  blk : W.heap[w.heap.size]? = some (.cells (bytesV s).toArray 103 (0, 0))
  res : W.heap[w.heap.size + 1]? = some (.cells #[.int .u64 0, .int .i64 0, .int .i64 0, .int .i64 0, .int .i64 0, .string ⟨#[]⟩] 85 (0, 0))
  low : Below w.heap.size w W

set_option maxHeartbeats 1000000 in
set_option maxRecDepth 100000 in
theorem parts_is (s : ByteArray) (hs : s.size = 64) (w : World) :
    Calls Try.prog 50 #[.agg (bytesV s).toArray] w fun e w' => e = .returned (pcV (partsP s)) ∧ Below w.heap.size w w' := by
  have hlen : (bytesV s).length = 64 := by rw [bytesV_len, hs]
  obtain ⟨bv, hbv⟩ : ∃ bv, bv = (bytesV s).toArray := ⟨_, rfl⟩
  have hbl : bv.size = 64 := by rw [hbv]; simpa using hlen
  have HW := Lib.hid (show PaW w s ((w.alloc (.cells bv 103)).alloc (.cells #[.int .u64 0, .int .i64 0, .int .i64 0, .int .i64 0, .int .i64 0, .string ⟨#[]⟩] 85)) by
    rw [hbv]
    refine ⟨?_, ?_, ((Below.refl w.heap.size w).alloc (Nat.le_refl _) _).alloc (by simp) _⟩
    · show ((w.heap.push _).push _)[w.heap.size]? = _
      rw [Array.getElem?_push, if_neg (by simp), Array.getElem?_push, if_pos rfl]
    · show ((w.heap.push _).push _)[w.heap.size + 1]? = _
      rw [Array.getElem?_push, if_pos (by simp)])
  have r0 := valB_range (s := s.extract 0 8) (k := 8) (by rw [ByteArray.size_extract]; omega)
  have r1 := valB_range (s := s.extract 8 12) (k := 4) (by rw [ByteArray.size_extract]; omega)
  have r2 := valB_range (s := s.extract 12 14) (k := 2) (by rw [ByteArray.size_extract]; omega)
  have r3 := valB_range (s := s.extract 14 16) (k := 2) (by rw [ByteArray.size_extract]; omega)
  have r4 := valB_range (s := s.extract 16 18) (k := 2) (by rw [ByteArray.size_extract]; omega)
  have r5 := valB_range (s := s.extract 18 19) (k := 1) (by rw [ByteArray.size_extract]; omega)
  simp at r0 r1 r2 r3 r4 r5
  have hm : minI (valB (s.extract 18 19)) 37 = min (valB (s.extract 18 19)) 37 := by unfold minI; split <;> omega
  obtain ⟨n, hn⟩ : ∃ n : Nat, n = (min (valB (s.extract 18 19)) 37).toNat := ⟨_, rfl⟩
  have hmn : minI (valB (s.extract 18 19)) 37 = n := by rw [hm]; omega
  have hn37 : n ≤ 37 := by omega
  have HP := Lib.hid (show partsP s = ⟨valB (s.extract 0 8), valB (s.extract 8 12), valB (s.extract 12 14), valB (s.extract 14 16), valB (s.extract 16 18), s.extract 19 (19 + n)⟩ by rw [hn]; rfl)
  have w1 : IntKind.i64.wrap (valB (s.extract 8 12)) = valB (s.extract 8 12) := by rw [IntKind.wrap_i64]; omega
  have w2 : IntKind.i64.wrap (valB (s.extract 12 14)) = valB (s.extract 12 14) := by rw [IntKind.wrap_i64]; omega
  have w3 : IntKind.i64.wrap (valB (s.extract 14 16)) = valB (s.extract 14 16) := by rw [IntKind.wrap_i64]; omega
  have w4 : IntKind.i64.wrap (valB (s.extract 16 18)) = valB (s.extract 16 18) := by rw [IntKind.wrap_i64]; omega
  have w5 : IntKind.i64.wrap (valB (s.extract 18 19)) = valB (s.extract 18 19) := by rw [IntKind.wrap_i64]; omega
  have w6 : IntKind.i64.wrap (19 + (n : Int)) = 19 + n := by rw [IntKind.wrap_i64]; omega
  rw [← hbv]
  clear hbv hlen hm hn
  go_enter Try.func50, Try.ntmps50
  go_wp2_with fail
  generalize (w.alloc (.cells bv 103)).alloc (.cells #[.int .u64 0, .int .i64 0, .int .i64 0, .int .i64 0, .int .i64 0, .string ⟨#[]⟩] 85) = W at *
  refine (row_num HW.out.blk 18 1 46 (by omega) (by omega)).mono ?_
  rintro e W' ⟨rfl, hW⟩
  subst hW
  go_wp2_with fail
  have hdrew : PaW w s W.drew := ⟨HW.out.blk, HW.out.res, HW.out.low.drew⟩
  refine wp_region_phase3 (PaW w s) 19 1 (by kernel_rfl) (by kernel_rfl) rfl (by kernel_rfl) (by kernel_rfl) (by kernel_rfl) hdrew ?_
  intro hne
  simp only [List.take_succ_cons, List.take_zero]
  have a1 : (0 : Int) ≤ 19 + n := by omega
  have a2 : (19 : Int) ≤ 19 + n := by omega
  have a3 : (19 : Int) + n ≤ 64 := by omega
  have a4 : ((19 : Int) + n).toNat = 19 + n := by omega
  have fc : ∀ x : HeldW (PaW w s), (convert 61 9 (.slice (some ⟨w.heap.size, 19, none⟩) n 45)).run Try.prog x.w = .ok (.string (s.extract 19 (19 + n))) x.w := fun x => conv_at x.ok.blk 19 n (by omega)
  repeat (go_big_quiet_step (first | (go_at_call 60; rename_i xx; exact kept_same (row_num xx.ok.blk _ _ _ (by omega) (by omega)))))
  refine wpQuiet_nil ?_
  rintro W1 ⟨⟨_, hF⟩, rfl⟩
  clear fc hne hdrew HW
  have y0 := cellH hF.res 0
  have y1 := cellH hF.res 1
  have y2 := cellH hF.res 2
  have y3 := cellH hF.res 3
  have y4 := cellH hF.res 4
  have y5 := cellH hF.res 5
  have yf := freeH hF.res
  simp at y0 y1 y2 y3 y4 y5
  have HL := Lib.hid hF.low
  clear hF
  refine one_ready (i := 19) (by kernel_rfl) (wpOp_step rfl (fun K' hK' => ?_))
  go_simp
  refine hK' _ _ ?_
  clear hK' K'
  refine ⟨by kernel_rfl, ?_⟩
  go_wp2_with fail
  refine bodyPost_ret (v := pcV (partsP s)) (by rw [HP.out]; simp [results, Try.results50, go_sem, pcV, y0, y1, y2, y3, y4, y5]) rfl ⟨rfl, ?_⟩
  repeat (refine Below.setCell ?_ (by simp) _)
  exact HL.out
end Go.Proofs.Ytbdgmddlghhkjaa
