/-
  What the program's framed (package sector) answers: the cells of a piece's sector. The piece may be.
-/
import Derived.Test.YtbdgmddlghhkjaaSecS
import Derived.Test.YtbdgmddlghhkjaaPhaseC
import Derived.Deep.RegionLaw
namespace Go.Proofs.Ytbdgmddlghhkjaa
open Go.RowKit

/-- A text's cells. -/
def bytesV (s : ByteArray) : List Value := s.data.toList.map fun b => .int .u8 b.toNat
theorem bytesV_len (s : ByteArray) : (bytesV s).length = s.size := by simp [bytesV]
theorem bytesV_one (s : ByteArray) : ∀ v ∈ bytesV s, v.oneCell' = true := by
  intro v hv
  obtain ⟨b, _, rfl⟩ := List.mem_map.1 hv
  rfl
theorem bytesV_bl (s : ByteArray) : bytesV s = cellsB (bl s) := rfl

def z64 : List Value := List.replicate 64 (.int .u8 0)
theorem info_blk : (Try.prog.info? 103).map (fun i => (i.zero, i.size)) = some (some (.agg z64.toArray), 64) := by kernel_rfl
theorem info_byte : (Try.prog.info? 5).map (·.size) = some 1 := by kernel_rfl

/-- A whole sector is loaded, or stored: said as one, so that no walk opens it into its 64 cells. -/
def loadS (t : TypeId) (v : Value) : Sem Value := Instr.loadAt t v
@[go_sem ↓] theorem loadS_block (v : Value) : Instr.loadAt 103 v = loadS 103 v := rfl
theorem run_loadS {P : Program} {w : World} {g : Nat} {t ty : TypeId} {cs : Array Value} {fr : Nat × Nat} {d : TypeDesc} (hg : w.heap[g]? = some (.cells cs t fr)) (hu : P.underlying ty = some d) (hd : (match d with | .struct _ | .array _ _ => true | _ => false) = true) (hi : (P.info? ty).map (·.size) = some cs.size) :
    (loadS ty (.pointer (some ⟨g, 0, none⟩))).run P w = .ok (.agg cs) w := by
  simp only [loadS, Instr.loadAt, Instr.sureAddr, Sem.run_bind, Sem.run_pure, Result.andThen]
  exact run_loadVar_row w g t ty cs fr d hg hu hd hi

/-- 'copy(dst, s)', s a string that fits, dst in a row that is known whole. -/
theorem run_copy_str {P : Program} (w : World) (dT sT ty elem : TypeId) (g o dLen dCap : Nat) (s : ByteArray) (cur : Array Value) (t : TypeId)
    (hu : P.underlying dT = some (.slice elem)) (hs : (P.info? elem).map (·.size) = some 1) (hg : w.heap[g]? = some (.cells cur t (0, 0))) (hle : s.size ≤ dLen) (hfit : o + s.size ≤ cur.size) :
    (Builtin.copy_ #[dT, sT] ty #[.slice (some ⟨g, o, none⟩) dLen dCap, .string s]).run P w = .ok (goInt s.size) (w.setRow g (splice cur.toList o (bytesV s)).toArray) := by
  have hlen := bytesV_len s
  have hst := run_storeCells_at P g o t (bytesV s) 0 cur w hg (by rw [hlen]; simpa using hfit) (bytesV_one _)
  have hmin : Nat.min s.size dLen = s.size := Nat.min_eq_left hle
  have htk : List.take s.size (List.map (fun b : UInt8 => Value.int IntKind.u8 (b.toNat : Int)) s.data.toList) = bytesV s := by
    rw [List.take_of_length_le (by rw [List.length_map, Array.length_toList]; exact Nat.le_refl _)]
    rfl
  simp only [Nat.add_zero, List.append_assoc] at hst
  cases hq : P.info? elem with
  | none => simp [hq] at hs
  | some i =>
    simp [Builtin.copy_, run_underlying hu, Builtin.lenOf, Builtin.firstCells, sizeOf, typeInfo, hq, hmin]
    rw [htk, hst]
    simp [Result.andThen, splice]

/-- A row: these bytes, and noughts behind them. -/
def rowZ (l : List UInt8) (m : Nat) : List Value := cellsB l ++ List.replicate m (.int .u8 0)
theorem rowZ_len (l : List UInt8) (m : Nat) : (rowZ l m).length = l.length + m := by simp [rowZ, cellsB_len]
theorem rowZ_put (l x : List UInt8) {m : Nat} (_h : x.length ≤ m) : splice (rowZ l m) l.length (cellsB x) = rowZ (l ++ x) (m - x.length) := by
  have hl := cellsB_len l
  unfold splice rowZ
  rw [List.take_append_of_le_length (by omega), List.take_of_length_le (by omega), List.drop_append, hl, List.drop_eq_nil_of_le (by rw [hl]; omega), List.nil_append, List.drop_replicate, cellsB_len, show l.length + x.length - l.length = x.length by omega]
  simp [cellsB, List.append_assoc]
theorem rowZ_more (l : List UInt8) (k m : Nat) : rowZ l (k + m) = rowZ (l ++ bl (zeroB k)) m := by
  have e : bl (zeroB k) = List.replicate k 0 := by
    have := strOf_cells (List.replicate k 0)
    rw [List.map_replicate] at this
    show bl (strOfNums (List.replicate k 0)) = _
    rw [show (0 : Int) = ((0 : UInt8).toNat : Int) from rfl, this, bl_ofL]
  unfold rowZ
  rw [e]
  simp [cellsB, ← List.replicate_append_replicate]
theorem rowZ_nil (l : List UInt8) : rowZ l 0 = cellsB l := by simp [rowZ]

/-- What lies in memory while a piece is framed: the piece, the result, the sector so far. -/
structure FrW (w : World) (p : Pc) (l : List UInt8) (m : Nat) (W : World) : Prop where
  pc : W.heap[w.heap.size]? = some (.cells (pcC p) 85 (0, 0))
  res : W.heap[w.heap.size + 1]? = some (.cells (rowZ [] 64).toArray 103 (0, 0))
  blk : W.heap[w.heap.size + 1 + 1]? = some (.cells (rowZ l m).toArray 103 (0, 0))
  low : Below w.heap.size w W
theorem FrW.drew {w : World} {p : Pc} {l : List UInt8} {m : Nat} {W : World} (h : FrW w p l m W) : FrW w p l m W.drew := ⟨h.pc, h.res, h.blk, h.low.drew⟩
theorem FrW.put {w : World} {p : Pc} {l : List UInt8} {m : Nat} {W : World} (h : FrW w p l m W) (x : List UInt8) (hx : x.length ≤ m) {o : Nat} (ho : o = l.length) : FrW w p (l ++ x) (m - x.length) (W.setRow (w.heap.size + 1 + 1) (splice (rowZ l m) o (cellsB x)).toArray) := by
  rw [ho, rowZ_put l x hx]
  exact ⟨(setRow_other _ _ _ _ (by omega)).trans h.pc, (setRow_other _ _ _ _ (by omega)).trans h.res, setRow_heap _ _ _ _ _ _ h.blk, below_setRow h.low (by omega) _⟩
theorem FrW.start {w : World} {p : Pc} {z : List Value} (hz : z = z64) : FrW w p [] 64 (((w.alloc (.cells (pcC p) 85)).alloc (.cells z.toArray 103)).alloc (.cells z.toArray 103)) := by
  have e : rowZ [] 64 = z := by rw [hz]; rfl
  refine ⟨?_, ?_, ?_, (((Below.refl w.heap.size w).alloc (Nat.le_refl _) _).alloc (by simp) _).alloc (by simp; omega) _⟩
  · show (((w.heap.push _).push _).push _)[w.heap.size]? = _
    rw [Array.getElem?_push, if_neg (by simp; omega), Array.getElem?_push, if_neg (by simp), Array.getElem?_push, if_pos rfl]
  · show (((w.heap.push _).push _).push _)[w.heap.size + 1]? = _
    rw [Array.getElem?_push, if_neg (by simp), Array.getElem?_push, if_pos (by simp), e]
  · show (((w.heap.push _).push _).push _)[w.heap.size + 1 + 1]? = _
    rw [Array.getElem?_push, if_pos (by simp), e]

set_option maxHeartbeats 1000000 in
set_option maxRecDepth 100000 in
theorem framed_is (p : Pc) (h : p.Ok) (hf : p.Fits) (w : World) :
    Calls Try.prog 52 #[.agg (pcC p)] w fun e w' => e = .returned (.agg (bytesV (printB p)).toArray) ∧ Below w.heap.size w w' := by
  obtain ⟨hz, hsz⟩ := zero_of_info info_blk
  obtain ⟨z, hzd⟩ : ∃ z, z = z64 := ⟨_, rfl⟩
  rw [← hzd] at hz
  have hzl : z.length = 64 := by rw [hzd]; rfl
  have hzn : z ≠ [] := by intro e; rw [e] at hzl; simp at hzl
  have hd := h.d
  have b1 := h.g0
  have b2 := h.g1
  have b3 := h.n0
  have b4 := h.n1
  have b5 := h.t0
  have b6 := h.t1
  have b7 := h.i0
  have b8 : p.idx < 65536 := by have := h.i1; omega
  have b9 := hf.s0
  have b10 := hf.s1
  have w1 : IntKind.u64.wrap p.gen = p.gen := by rw [IntKind.wrap_u64]; omega
  have w2 : IntKind.u64.wrap p.no = p.no := by rw [IntKind.wrap_u64]; omega
  have w3 : IntKind.u64.wrap p.idx = p.idx := by rw [IntKind.wrap_u64]; omega
  have w4 : IntKind.u64.wrap p.tot = p.tot := by rw [IntKind.wrap_u64]; omega
  have w5 : IntKind.u64.wrap (p.data.size : Int) = p.data.size := by rw [IntKind.wrap_u64]; omega
  have HF := Lib.hid (FrW.start (w := w) (p := p) hzd)
  clear h hf hzd
  go_enter Try.func52, Try.ntmps52
  go_wp2_with fail
  generalize ((w.alloc (.cells (pcC p) 85)).alloc (.cells z.toArray 103)).alloc (.cells z.toArray 103) = W at *
  obtain ⟨l0, E0⟩ : ∃ l : List UInt8, Hid (l = []) := ⟨_, Lib.hid rfl⟩
  rw [← E0.out] at HF
  have N0 : l0.length = 0 := by rw [E0.out]; rfl
  refine wp_region_phase3 (FrW w p l0 64) 3 1 (by kernel_rfl) (by kernel_rfl) rfl (by kernel_rfl) (by kernel_rfl) (by kernel_rfl) HF.out.drew ?_
  intro hne
  simp only [List.take_succ_cons, List.take_zero]
  have f0 : ∀ x : HeldW (FrW w p l0 64), x.w.cell? ⟨w.heap.size, 0, none⟩ = some (.int .u64 p.stamp) := fun x => by rw [cellH x.ok.pc]; rfl
  repeat (go_big_quiet_step (fail))
  refine wpQuiet_nil ?_
  rintro W1 ⟨⟨_, hF⟩, rfl⟩
  clear f0 hne HF
  refine one_ready (i := 3) (by kernel_rfl) (wpOp_step rfl (fun K' hK' => ?_))
  go_simp
  refine (put_is _ 0 8 _ (rowZ l0 64) _ p.stamp (by omega) (by omega) (by omega) (by rw [rowZ_len]; omega) _ hF.blk).mono ?_
  rintro e W2 ⟨rfl, hW2⟩
  obtain ⟨l1, E1⟩ : ∃ l : List UInt8, Hid (l = l0 ++ numL p.stamp.toNat 8) := ⟨_, Lib.hid rfl⟩
  have N1 : l1.length = 8 := by rw [E1.out, List.length_append, N0, numL_len]
  have HF := Lib.hid (show FrW w p l1 56 W2 by
    rw [hW2, E1.out]
    have := hF.put (numL p.stamp.toNat 8) (by rw [numL_len]; omega) (o := 0) N0.symm
    rw [numL_len] at this
    exact this)
  clear hF hW2
  go_simp
  refine hK' _ _ ?_
  clear hK' K'
  refine ⟨by kernel_rfl, ?_⟩
  go_wp2_with fail
  refine wp_region_phase3 (FrW w p l1 56) 4 1 (by kernel_rfl) (by kernel_rfl) rfl (by kernel_rfl) (by kernel_rfl) (by kernel_rfl) HF.out.drew ?_
  intro hne
  simp only [List.take_succ_cons, List.take_zero]
  have f0 : ∀ x : HeldW (FrW w p l1 56), x.w.cell? ⟨w.heap.size, 1, none⟩ = some (.int .i64 p.gen) := fun x => by rw [cellH x.ok.pc]; rfl
  repeat (go_big_quiet_step (fail))
  refine wpQuiet_nil ?_
  rintro W1 ⟨⟨_, hF⟩, rfl⟩
  clear f0 hne HF
  refine one_ready (i := 4) (by kernel_rfl) (wpOp_step rfl (fun K' hK' => ?_))
  go_simp
  refine (put_is _ 8 4 _ (rowZ l1 56) _ p.gen (by omega) (by omega) (by omega) (by rw [rowZ_len]; omega) _ hF.blk).mono ?_
  rintro e W2 ⟨rfl, hW2⟩
  obtain ⟨l2, E2⟩ : ∃ l : List UInt8, Hid (l = l1 ++ numL p.gen.toNat 4) := ⟨_, Lib.hid rfl⟩
  have N2 : l2.length = 12 := by rw [E2.out, List.length_append, N1, numL_len]
  have HF := Lib.hid (show FrW w p l2 52 W2 by
    rw [hW2, E2.out]
    have := hF.put (numL p.gen.toNat 4) (by rw [numL_len]; omega) (o := 8) N1.symm
    rw [numL_len] at this
    exact this)
  clear hF hW2
  go_simp
  refine hK' _ _ ?_
  clear hK' K'
  refine ⟨by kernel_rfl, ?_⟩
  go_wp2_with fail
  refine wp_region_phase3 (FrW w p l2 52) 4 1 (by kernel_rfl) (by kernel_rfl) rfl (by kernel_rfl) (by kernel_rfl) (by kernel_rfl) HF.out.drew ?_
  intro hne
  simp only [List.take_succ_cons, List.take_zero]
  have f0 : ∀ x : HeldW (FrW w p l2 52), x.w.cell? ⟨w.heap.size, 2, none⟩ = some (.int .i64 p.no) := fun x => by rw [cellH x.ok.pc]; rfl
  repeat (go_big_quiet_step (fail))
  refine wpQuiet_nil ?_
  rintro W1 ⟨⟨_, hF⟩, rfl⟩
  clear f0 hne HF
  refine one_ready (i := 4) (by kernel_rfl) (wpOp_step rfl (fun K' hK' => ?_))
  go_simp
  refine (put_is _ 12 2 _ (rowZ l2 52) _ p.no (by omega) (by omega) (by omega) (by rw [rowZ_len]; omega) _ hF.blk).mono ?_
  rintro e W2 ⟨rfl, hW2⟩
  obtain ⟨l3, E3⟩ : ∃ l : List UInt8, Hid (l = l2 ++ numL p.no.toNat 2) := ⟨_, Lib.hid rfl⟩
  have N3 : l3.length = 14 := by rw [E3.out, List.length_append, N2, numL_len]
  have HF := Lib.hid (show FrW w p l3 50 W2 by
    rw [hW2, E3.out]
    have := hF.put (numL p.no.toNat 2) (by rw [numL_len]; omega) (o := 12) N2.symm
    rw [numL_len] at this
    exact this)
  clear hF hW2
  go_simp
  refine hK' _ _ ?_
  clear hK' K'
  refine ⟨by kernel_rfl, ?_⟩
  go_wp2_with fail
  refine wp_region_phase3 (FrW w p l3 50) 4 1 (by kernel_rfl) (by kernel_rfl) rfl (by kernel_rfl) (by kernel_rfl) (by kernel_rfl) HF.out.drew ?_
  intro hne
  simp only [List.take_succ_cons, List.take_zero]
  have f0 : ∀ x : HeldW (FrW w p l3 50), x.w.cell? ⟨w.heap.size, 3, none⟩ = some (.int .i64 p.idx) := fun x => by rw [cellH x.ok.pc]; rfl
  repeat (go_big_quiet_step (fail))
  refine wpQuiet_nil ?_
  rintro W1 ⟨⟨_, hF⟩, rfl⟩
  clear f0 hne HF
  refine one_ready (i := 4) (by kernel_rfl) (wpOp_step rfl (fun K' hK' => ?_))
  go_simp
  refine (put_is _ 14 2 _ (rowZ l3 50) _ p.idx (by omega) (by omega) (by omega) (by rw [rowZ_len]; omega) _ hF.blk).mono ?_
  rintro e W2 ⟨rfl, hW2⟩
  obtain ⟨l4, E4⟩ : ∃ l : List UInt8, Hid (l = l3 ++ numL p.idx.toNat 2) := ⟨_, Lib.hid rfl⟩
  have N4 : l4.length = 16 := by rw [E4.out, List.length_append, N3, numL_len]
  have HF := Lib.hid (show FrW w p l4 48 W2 by
    rw [hW2, E4.out]
    have := hF.put (numL p.idx.toNat 2) (by rw [numL_len]; omega) (o := 14) N3.symm
    rw [numL_len] at this
    exact this)
  clear hF hW2
  go_simp
  refine hK' _ _ ?_
  clear hK' K'
  refine ⟨by kernel_rfl, ?_⟩
  go_wp2_with fail
  refine wp_region_phase3 (FrW w p l4 48) 4 1 (by kernel_rfl) (by kernel_rfl) rfl (by kernel_rfl) (by kernel_rfl) (by kernel_rfl) HF.out.drew ?_
  intro hne
  simp only [List.take_succ_cons, List.take_zero]
  have f0 : ∀ x : HeldW (FrW w p l4 48), x.w.cell? ⟨w.heap.size, 4, none⟩ = some (.int .i64 p.tot) := fun x => by rw [cellH x.ok.pc]; rfl
  repeat (go_big_quiet_step (fail))
  refine wpQuiet_nil ?_
  rintro W1 ⟨⟨_, hF⟩, rfl⟩
  clear f0 hne HF
  refine one_ready (i := 4) (by kernel_rfl) (wpOp_step rfl (fun K' hK' => ?_))
  go_simp
  refine (put_is _ 16 2 _ (rowZ l4 48) _ p.tot (by omega) (by omega) (by omega) (by rw [rowZ_len]; omega) _ hF.blk).mono ?_
  rintro e W2 ⟨rfl, hW2⟩
  obtain ⟨l5, E5⟩ : ∃ l : List UInt8, Hid (l = l4 ++ numL p.tot.toNat 2) := ⟨_, Lib.hid rfl⟩
  have N5 : l5.length = 18 := by rw [E5.out, List.length_append, N4, numL_len]
  have HF := Lib.hid (show FrW w p l5 46 W2 by
    rw [hW2, E5.out]
    have := hF.put (numL p.tot.toNat 2) (by rw [numL_len]; omega) (o := 16) N4.symm
    rw [numL_len] at this
    exact this)
  clear hF hW2
  go_simp
  refine hK' _ _ ?_
  clear hK' K'
  refine ⟨by kernel_rfl, ?_⟩
  go_wp2_with fail
  refine wp_region_phase3 (FrW w p l5 46) 5 1 (by kernel_rfl) (by kernel_rfl) rfl (by kernel_rfl) (by kernel_rfl) (by kernel_rfl) HF.out.drew ?_
  intro hne
  simp only [List.take_succ_cons, List.take_zero]
  have f0 : ∀ x : HeldW (FrW w p l5 46), x.w.cell? ⟨w.heap.size, 5, none⟩ = some (.string p.data) := fun x => by rw [cellH x.ok.pc]; rfl
  repeat (go_big_quiet_step (fail))
  refine wpQuiet_nil ?_
  rintro W1 ⟨⟨_, hF⟩, rfl⟩
  clear f0 hne HF
  refine one_ready (i := 5) (by kernel_rfl) (wpOp_step rfl (fun K' hK' => ?_))
  go_simp
  refine (put_is _ 18 1 _ (rowZ l5 46) _ (p.data.size : Int) (by omega) (by omega) (by omega) (by rw [rowZ_len]; omega) _ hF.blk).mono ?_
  rintro e W2 ⟨rfl, hW2⟩
  obtain ⟨l6, E6⟩ : ∃ l : List UInt8, Hid (l = l5 ++ numL (p.data.size : Int).toNat 1) := ⟨_, Lib.hid rfl⟩
  have N6 : l6.length = 19 := by rw [E6.out, List.length_append, N5, numL_len]
  have HF := Lib.hid (show FrW w p l6 45 W2 by
    rw [hW2, E6.out]
    have := hF.put (numL (p.data.size : Int).toNat 1) (by rw [numL_len]; omega) (o := 18) N5.symm
    rw [numL_len] at this
    exact this)
  clear hF hW2
  go_simp
  refine hK' _ _ ?_
  clear hK' K'
  refine ⟨by kernel_rfl, ?_⟩
  go_wp2_with fail
  refine wp_region_phase3 (FrW w p l6 45) 3 1 (by kernel_rfl) (by kernel_rfl) rfl (by kernel_rfl) (by kernel_rfl) (by kernel_rfl) HF.out.drew ?_
  intro hne
  simp only [List.take_succ_cons, List.take_zero]
  have f0 : ∀ x : HeldW (FrW w p l6 45), x.w.cell? ⟨w.heap.size, 5, none⟩ = some (.string p.data) := fun x => by rw [cellH x.ok.pc]; rfl
  repeat (go_big_quiet_step (fail))
  refine wpQuiet_nil ?_
  rintro W1 ⟨⟨_, hF⟩, rfl⟩
  clear f0 hne HF
  refine one_ready (i := 3) (by kernel_rfl) (wpOp_step rfl (fun K' hK' => ?_))
  have hcp := run_copy_str (P := Try.prog) W1 61 9 3 5 (w.heap.size + 1 + 1) 19 37 45 p.data (rowZ l6 45).toArray 103 Try.underlying61 info_byte hF.blk hd (by rw [List.size_toArray, rowZ_len]; omega)
  rw [List.toList_toArray] at hcp
  obtain ⟨W2, hW2⟩ : ∃ W2, W2 = W1.setRow (w.heap.size + 1 + 1) (splice (rowZ l6 45) 19 (bytesV p.data)).toArray := ⟨_, rfl⟩
  rw [← hW2] at hcp
  obtain ⟨l7, E7⟩ : ∃ l : List UInt8, Hid (l = l6 ++ bl p.data ++ bl (zeroB (37 - p.data.size))) := ⟨_, Lib.hid rfl⟩
  have N7 : l7.length = 56 := by rw [E7.out, List.length_append, List.length_append, N6, bl_len, bl_len, zeroB_size]; omega
  have HF := Lib.hid (show FrW w p l7 8 W2 by
    have := hF.put (bl p.data) (by rw [bl_len]; omega) (o := 19) N6.symm
    rw [bl_len] at this
    obtain ⟨h1, h2, h3, h4⟩ := this
    rw [show 45 - p.data.size = (37 - p.data.size) + 8 by omega, rowZ_more] at h3
    rw [hW2, E7.out]
    exact ⟨h1, h2, h3, h4⟩)
  clear hF hW2
  go_simp
  refine hK' _ _ ?_
  clear hK' K' hcp
  refine ⟨by kernel_rfl, ?_⟩
  go_wp2_with fail
  refine wp_region_phase3 (FrW w p l7 8) 3 1 (by kernel_rfl) (by kernel_rfl) rfl (by kernel_rfl) (by kernel_rfl) (by kernel_rfl) HF.out.drew ?_
  intro hne
  simp only [List.take_succ_cons, List.take_zero]
  have f0 : ∀ x : HeldW (FrW w p l7 8), x.w.cell? ⟨w.heap.size, 0, none⟩ = some (.int .u64 p.stamp) := fun x => by rw [cellH x.ok.pc]; rfl
  repeat (go_big_quiet_step (fail))
  refine wpQuiet_nil ?_
  rintro W1 ⟨⟨_, hF⟩, rfl⟩
  clear f0 hne HF
  refine one_ready (i := 3) (by kernel_rfl) (wpOp_step rfl (fun K' hK' => ?_))
  go_simp
  refine (put_is _ 56 8 _ (rowZ l7 8) _ p.stamp (by omega) (by omega) (by omega) (by rw [rowZ_len]; omega) _ hF.blk).mono ?_
  rintro e W2 ⟨rfl, hW2⟩
  obtain ⟨l8, E8⟩ : ∃ l : List UInt8, Hid (l = l7 ++ numL p.stamp.toNat 8) := ⟨_, Lib.hid rfl⟩
  have N8 : l8.length = 64 := by rw [E8.out, List.length_append, N7, numL_len]
  have HF := Lib.hid (show FrW w p l8 0 W2 by
    rw [hW2, E8.out]
    have := hF.put (numL p.stamp.toNat 8) (by rw [numL_len]; omega) (o := 56) N7.symm
    rw [numL_len] at this
    exact this)
  clear hF hW2
  go_simp
  refine hK' _ _ ?_
  clear hK' K'
  refine ⟨by kernel_rfl, ?_⟩
  go_wp2_with fail
  have ha := HF.out.blk
  have hl64 : (rowZ l8 0).toArray.size = 64 := by rw [List.size_toArray, rowZ_len, N8]
  have hl := run_loadS (P := Try.prog) (ty := 103) ha Try.underlying103 rfl (by rw [hsz, hl64])
  have hr := HF.out.res
  have hst := run_storeCells_at Try.prog (w.heap.size + 1) 0 103 (rowZ l8 0) 0 (rowZ [] 64).toArray W2 hr (by rw [rowZ_len, List.size_toArray, rowZ_len, N8]; simp) (by rw [rowZ_nil]; intro v hv; obtain ⟨b, _, rfl⟩ := List.mem_map.1 hv; rfl)
  go_wp2_with fail
  have hD : List.drop (rowZ l8 0).length (rowZ [] 64) = [] := List.drop_eq_nil_of_le (by rw [rowZ_len, rowZ_len, N8]; simp)
  have hE : rowZ l8 0 = bytesV (printB p) := by
    rw [rowZ_nil, bytesV_bl, bl_print, E8.out, E7.out, E6.out, E5.out, E4.out, E3.out, E2.out, E1.out, E0.out]
    simp only [printL, List.append_assoc, List.nil_append, Int.toNat_natCast]
  rw [hD, List.append_nil]
  refine bodyPost_ret (results_cell_row rfl _ _ (w.heap.size + 1) 103 (rowZ l8 0).toArray (0, 0) _ rfl (setRow_heap _ _ _ _ _ _ hr) Try.underlying103 rfl (by rw [hsz, hl64])) rfl ⟨by rw [hE], below_setRow HF.out.low (by omega) _⟩
end Go.Proofs.Ytbdgmddlghhkjaa
