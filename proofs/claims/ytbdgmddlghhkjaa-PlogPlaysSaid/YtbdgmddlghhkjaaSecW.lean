/-
  What the program's Read (package sector) answers. No conditions but a text's length.
-/
import Derived.Test.YtbdgmddlghhkjaaSecV
import Derived.ChangeKeysEq
namespace Go.Proofs.Ytbdgmddlghhkjaa
open Go.RowKit

theorem byte_plain : Try.prog.plainKey 5 = true := by kernel_rfl
theorem byte_cells : Try.prog.cellsOf 5 = 1 := by kernel_rfl
theorem eqItems_bytes (xs ys : List UInt8) (d : Nat) (w : World) : ∀ (is : List Nat), (∀ i ∈ is, i < xs.length ∧ i < ys.length) →
    (Op.eqItems (d + 1) 5 1 (cellsB xs).toArray (cellsB ys).toArray is).run Try.prog w = .ok (decide (∀ i ∈ is, xs[i]? = ys[i]?)) w
  | [], _ => by simp [Op.eqItems]
  | i :: is, h => by
    obtain ⟨h1, h2⟩ := h i List.mem_cons_self
    have e : ∀ (l : List UInt8) (hi : i < l.length), (cellsB l).toArray[i * 1]? = some (.int .u8 (l[i].toNat : Int)) := fun l hi => by
      rw [List.getElem?_toArray, Nat.mul_one, cellsB, List.getElem?_map, List.getElem?_eq_getElem hi]
      rfl
    have p1 := run_part_plain (P := Try.prog) w byte_plain (e xs h1)
    have p2 := run_part_plain (P := Try.prog) w byte_plain (e ys h2)
    have p3 := run_equalIn_int (P := Try.prog) w d 5 .u8 .u8 (xs[i].toNat : Int) (ys[i].toNat : Int) Try.underlying5
    have ih := eqItems_bytes xs ys d w is (fun j hj => h j (List.mem_cons_of_mem _ hj))
    simp only [Op.eqItems, Sem.run_bind, p1, p2, p3, Result.andThen_ok]
    have ex : xs[i]? = some xs[i] := List.getElem?_eq_getElem h1
    have ey : ys[i]? = some ys[i] := List.getElem?_eq_getElem h2
    by_cases hb : xs[i] = ys[i]
    · rw [hb]
      simp [ih, ex, ey, hb]
    · have hne : ((xs[i].toNat : Int) == (ys[i].toNat : Int)) = false := by
        simp only [beq_eq_false_iff_ne, ne_eq]
        intro h
        exact hb (UInt8.toNat_inj.1 (by omega))
      rw [hne]
      simp [ex, ey, hb]
set_option maxRecDepth 100000 in
theorem eq_block (s t : ByteArray) (hs : s.size = 64) (ht : t.size = 64) (w : World) :
    (Op.equalIn 10000 103 (.agg (bytesV s).toArray) (.agg (bytesV t).toArray)).run Try.prog w = .ok (decide (s = t)) w := by
  obtain ⟨i0, hi0, hz0, hz1, hz2⟩ := info_parts info_byte3
  have h := run_equalIn_array (P := Try.prog) w 9999 (t := 103) (e := 5) (n := 64) (bytesV s).toArray (bytesV t).toArray Try.underlying103 hi0
  rw [h, byte_cells, show (9999 : Nat) = 9998 + 1 from rfl, bytesV_bl, bytesV_bl, eqItems_bytes (bl s) (bl t) 9998 w _ (fun i hi => by rw [bl_len, bl_len, hs, ht]; have := List.mem_range.1 hi; omega)]
  congr 1
  rw [decide_eq_decide]
  constructor
  · intro h
    apply bl_inj
    refine List.ext_getElem? fun i => ?_
    by_cases hi : i < 64
    · exact h i (List.mem_range.2 hi)
    · rw [List.getElem?_eq_none (by rw [bl_len]; omega), List.getElem?_eq_none (by rw [bl_len]; omega)]
  · intro h i _
    rw [h]

/-- What Read asks is what the document asks. -/
theorem read_parts (s : ByteArray) (hs : s.size = 64) : readP s = if rightP (partsP s) = true ∧ printB (partsP s) = s then some (partsP s) else none := by
  have r5 := valB_range (s := s.extract 18 19) (k := 1) (by rw [ByteArray.size_extract]; omega)
  by_cases h : valB (s.extract 18 19) ≤ 37
  · have e : partsP s = cutP s := by
      unfold partsP cutP
      rw [show min (valB (s.extract 18 19)) 37 = valB (s.extract 18 19) by omega]
    rw [e]
    unfold readP
    by_cases h2 : rightP (cutP s) = true ∧ printB (cutP s) = s
    · rw [if_pos ⟨hs, h, h2⟩, if_pos h2]
    · rw [if_neg (fun k => h2 k.2.2), if_neg h2]
  · rw [readP_long (by omega), if_neg]
    rintro ⟨h1, h2⟩
    have hok := (rightP_iff _).1 h1
    have r0 := valB_range (s := s.extract 0 8) (k := 8) (by rw [ByteArray.size_extract]; omega)
    have := (cut_print hok ⟨r0.1, by have := r0.2; simp at this; exact this⟩).2
    rw [h2] at this
    have := hok.d
    omega

/-- What lies in memory while a sector is read. -/
structure RdW (w : World) (bv : Array Value) (p : Pc) (g : Nat) (W : World) : Prop where
  res : W.heap[w.heap.size]? = some (.cells #[.int .u64 0, .int .i64 0, .int .i64 0, .int .i64 0, .int .i64 0, .string ⟨#[]⟩] 85 (0, 0))
  blk : W.heap[w.heap.size + 1]? = some (.cells bv 103 (0, 0))
  pc : W.heap[g]? = some (.cells #[.int .u64 p.stamp, .int .i64 p.gen, .int .i64 p.no, .int .i64 p.idx, .int .i64 p.tot, .string p.data] 85 (0, 0))
  low : Below w.heap.size w W
theorem RdW.keep {w : World} {bv : Array Value} {p : Pc} {g : Nat} : ∀ W W', RdW w bv p g W → Below W.heap.size W W' → RdW w bv p g W' :=
  fun _ _ h hb => ⟨later_at hb h.res, later_at hb h.blk, later_at hb h.pc, below_step h.low hb⟩

set_option maxHeartbeats 1000000 in
set_option maxRecDepth 100000 in
theorem read_is (s : ByteArray) (w : World) :
    Calls Try.prog 43 #[.string s] w fun e w' => e = .returned (.tuple #[pcV ((readP s).getD noPc), .int .i64 (if (readP s).isSome then 0 else 3)]) ∧ Below w.heap.size w w' := by
  obtain ⟨X, hX⟩ : ∃ X : Value, X = .tuple #[pcV ((readP s).getD noPc), .int .i64 (if (readP s).isSome then 0 else 3)] := ⟨_, rfl⟩
  have HX := Lib.hid hX
  rw [← hX]
  clear hX
  by_cases hs : s.size = 64
  · have hsb : ((s.size : Int) != 64) = false := by simp [hs]
    obtain ⟨hz, hsz⟩ := zero_of_info info_blk
    obtain ⟨z, hzd⟩ : ∃ z, z = z64 := ⟨_, rfl⟩
    rw [← hzd] at hz
    have hzl : z.length = 64 := by rw [hzd]; rfl
    have hzn : z ≠ [] := by intro e; rw [e] at hzl; simp at hzl
    clear hzd
    obtain ⟨bv, hbv⟩ : ∃ bv, bv = (bytesV s).toArray := ⟨_, rfl⟩
    have hbl : bv.size = 64 := by rw [hbv]; simp [bytesV_len, hs]
    obtain ⟨W0, hW0⟩ : ∃ W0, W0 = w.alloc (.cells #[.int .u64 0, .int .i64 0, .int .i64 0, .int .i64 0, .int .i64 0, .string ⟨#[]⟩] 85) := ⟨_, rfl⟩
    have hcp := run_copy_str (P := Try.prog) (W0.alloc (.cells z.toArray 103)) 61 9 3 5 W0.heap.size 0 64 64 s z.toArray 103 Try.underlying61 info_byte (made_at _ _) (by omega) (by simp [hzl, hs])
    have hsp : splice z 0 (bytesV s) = bytesV s := by
      unfold splice
      rw [List.take_zero, List.nil_append, List.drop_eq_nil_of_le (by rw [bytesV_len]; omega), List.append_nil]
    rw [World.setRow_alloc_new, List.toList_toArray, hsp, ← hbv] at hcp
    have hl := run_loadS (P := Try.prog) (w := W0.alloc (.cells bv 103)) (g := W0.heap.size) (ty := 103) (made_at _ _) Try.underlying103 rfl (by rw [hsz, hbl])
    have hsz0 : W0.heap.size = w.heap.size + 1 := by rw [hW0]; simp
    rw [hsz0, hW0] at hcp hl
    clear hW0 hsz0 W0
    have PA := Lib.hid (parts_is s hs)
    rw [← hbv] at PA
    have HBV := Lib.hid hbv
    clear hbv hsp
    go_enter Try.func43, Try.ntmps43
    go_wp2_with fail
    refine (PA.out _).mono ?_
    rintro e w1 ⟨rfl, hb1⟩
    have HZ1 := Lib.hid (show w1.heap[w.heap.size]? = some (.cells #[.int .u64 0, .int .i64 0, .int .i64 0, .int .i64 0, .int .i64 0, .string ⟨#[]⟩] 85 (0, 0)) from later_at hb1 (by show ((w.heap.push _).push _)[w.heap.size]? = _; rw [Array.getElem?_push, if_neg (by simp), Array.getElem?_push, if_pos rfl]))
    have HX1 := Lib.hid (show w1.heap[w.heap.size + 1]? = some (.cells bv 103 (0, 0)) from later_at hb1 (by show ((w.heap.push _).push _)[w.heap.size + 1]? = _; rw [Array.getElem?_push, if_pos (by simp)]))
    have HB1 := Lib.hid (below_step (((Below.refl w.heap.size w).alloc (Nat.le_refl _) (.cells #[.int .u64 0, .int .i64 0, .int .i64 0, .int .i64 0, .int .i64 0, .string ⟨#[]⟩] 85)).alloc (by simp) (.cells bv 103)) hb1)
    have hrp := read_parts s hs
    have hff : (partsP s).Fits := by
      have r0 := valB_range (s := s.extract 0 8) (k := 8) (by rw [ByteArray.size_extract]; omega)
      exact ⟨r0.1, by have := r0.2; simp at this; exact this⟩
    generalize partsP s = p at hrp hff ⊢
    have hls := HB1.out.size
    have HS := Lib.hid (show RdW w bv p w1.heap.size (w1.alloc (.cells #[.int .u64 p.stamp, .int .i64 p.gen, .int .i64 p.no, .int .i64 p.idx, .int .i64 p.tot, .string p.data] 85)).drew from
      ⟨later_at (Below.drew ((Below.refl _ _).alloc (Nat.le_refl _) _)) HZ1.out, later_at (Below.drew ((Below.refl _ _).alloc (Nat.le_refl _) _)) HX1.out, made_at _ _, (HB1.out.alloc HB1.out.size _).drew⟩)
    have RI := Lib.hid (fun w : World => right_is p.stamp p.gen p.no p.idx p.tot p.data w)
    change Hid (∀ w : World, Calls Try.prog 51 _ w fun e w' => e = .returned (.bool (rightP p)) ∧ Below w.heap.size w w') at RI
    have HRP := Lib.hid hrp
    clear hb1 HZ1 HX1 HB1 PA hcp hl hrp hz hzl hzn
    cases hr : rightP p
    · have HNO := Lib.hid (show readP s = none by rw [HRP.out, if_neg (fun k => by rw [hr] at k; exact absurd k.1 (by simp))])
      rw [hr] at RI
      · go_wp2_with fail
        refine wp_region_kept (RdW w bv p w1.heap.size) (by kernel_rfl) (by kernel_rfl) HS.out ?_
        intro hne
        have f0 : ∀ x : HeldW (RdW w bv p w1.heap.size), x.w.cell? ⟨w1.heap.size, 0, none⟩ = some (.int .u64 p.stamp) := fun x => by rw [cellH x.ok.pc]; rfl
        have f1 : ∀ x : HeldW (RdW w bv p w1.heap.size), x.w.cell? ⟨w1.heap.size, 1, none⟩ = some (.int .i64 p.gen) := fun x => by rw [cellH x.ok.pc]; rfl
        have f2 : ∀ x : HeldW (RdW w bv p w1.heap.size), x.w.cell? ⟨w1.heap.size, 2, none⟩ = some (.int .i64 p.no) := fun x => by rw [cellH x.ok.pc]; rfl
        have f3 : ∀ x : HeldW (RdW w bv p w1.heap.size), x.w.cell? ⟨w1.heap.size, 3, none⟩ = some (.int .i64 p.idx) := fun x => by rw [cellH x.ok.pc]; rfl
        have f4 : ∀ x : HeldW (RdW w bv p w1.heap.size), x.w.cell? ⟨w1.heap.size, 4, none⟩ = some (.int .i64 p.tot) := fun x => by rw [cellH x.ok.pc]; rfl
        have f5 : ∀ x : HeldW (RdW w bv p w1.heap.size), x.w.cell? ⟨w1.heap.size, 5, none⟩ = some (.string p.data) := fun x => by rw [cellH x.ok.pc]; rfl
        have f6 : ∀ x : HeldW (RdW w bv p w1.heap.size), (loadS 103 (.pointer (some ⟨w.heap.size + 1, 0, none⟩))).run Try.prog x.w = .ok (.agg bv) x.w := fun x => run_loadS (P := Try.prog) x.ok.blk Try.underlying103 rfl (by rw [hsz, hbl])
        repeat (go_big_quiet_step (first | (go_at_call 51; exact kept_of RdW.keep (RI.out _))))
        refine wpQuiet_nil ?_
        rintro W1 ⟨⟨_, hF⟩, rfl⟩
        clear f0 f1 f2 f3 f4 f5 f6 hne HS
        have HL := Lib.hid hF.low
        have y0 := cellH hF.res 0
        have y1 := cellH hF.res 1
        have y2 := cellH hF.res 2
        have y3 := cellH hF.res 3
        have y4 := cellH hF.res 4
        have y5 := cellH hF.res 5
        have yf := freeH hF.res
        simp at y0 y1 y2 y3 y4 y5
        clear hF
        go_wp2_with fail
        refine bodyPost_ret (v := .tuple #[pcV noPc, .int .i64 3]) (by simp [results, Try.results43, go_sem, pcV, noPc, y0, y1, y2, y3, y4, y5]) rfl ⟨by rw [HX.out, HNO.out]; rfl, ?_⟩
        repeat (refine Below.setCell ?_ (by simp) _)
        exact HL.out

    · have FR := Lib.hid (framed_is p ((rightP_iff p).1 hr) hff)
      have hps := print_size ((rightP_iff p).1 hr).d
      have heq := eq_block (printB p) s hps hs
      rw [← HBV.out] at heq
      have HRR := Lib.hid hr
      rw [hr] at RI
      by_cases hps2 : printB p = s
      · have HYES := Lib.hid (show readP s = some p by rw [HRP.out, if_pos ⟨HRR.out, hps2⟩])
        rw [decide_eq_true hps2] at heq
        clear hps2 hr
        go_wp2_with fail
        refine wp_region_kept (RdW w bv p w1.heap.size) (by kernel_rfl) (by kernel_rfl) HS.out ?_
        intro hne
        have f0 : ∀ x : HeldW (RdW w bv p w1.heap.size), x.w.cell? ⟨w1.heap.size, 0, none⟩ = some (.int .u64 p.stamp) := fun x => by rw [cellH x.ok.pc]; rfl
        have f1 : ∀ x : HeldW (RdW w bv p w1.heap.size), x.w.cell? ⟨w1.heap.size, 1, none⟩ = some (.int .i64 p.gen) := fun x => by rw [cellH x.ok.pc]; rfl
        have f2 : ∀ x : HeldW (RdW w bv p w1.heap.size), x.w.cell? ⟨w1.heap.size, 2, none⟩ = some (.int .i64 p.no) := fun x => by rw [cellH x.ok.pc]; rfl
        have f3 : ∀ x : HeldW (RdW w bv p w1.heap.size), x.w.cell? ⟨w1.heap.size, 3, none⟩ = some (.int .i64 p.idx) := fun x => by rw [cellH x.ok.pc]; rfl
        have f4 : ∀ x : HeldW (RdW w bv p w1.heap.size), x.w.cell? ⟨w1.heap.size, 4, none⟩ = some (.int .i64 p.tot) := fun x => by rw [cellH x.ok.pc]; rfl
        have f5 : ∀ x : HeldW (RdW w bv p w1.heap.size), x.w.cell? ⟨w1.heap.size, 5, none⟩ = some (.string p.data) := fun x => by rw [cellH x.ok.pc]; rfl
        have f6 : ∀ x : HeldW (RdW w bv p w1.heap.size), (loadS 103 (.pointer (some ⟨w.heap.size + 1, 0, none⟩))).run Try.prog x.w = .ok (.agg bv) x.w := fun x => run_loadS (P := Try.prog) x.ok.blk Try.underlying103 rfl (by rw [hsz, hbl])
        repeat (go_big_quiet_step (first | (go_at_call 51; exact kept_of RdW.keep (RI.out _)) | (go_at_call 52; exact kept_of RdW.keep (FR.out _))))
        refine wpQuiet_nil ?_
        rintro W1 ⟨⟨_, hF⟩, rfl⟩
        clear f0 f1 f2 f3 f4 f5 f6 hne HS
        have HL := Lib.hid hF.low
        have y0 := cellH hF.res 0
        have y1 := cellH hF.res 1
        have y2 := cellH hF.res 2
        have y3 := cellH hF.res 3
        have y4 := cellH hF.res 4
        have y5 := cellH hF.res 5
        have yf := freeH hF.res
        have x0 := cellH hF.pc 0
        have x1 := cellH hF.pc 1
        have x2 := cellH hF.pc 2
        have x3 := cellH hF.pc 3
        have x4 := cellH hF.pc 4
        have x5 := cellH hF.pc 5
        simp at y0 y1 y2 y3 y4 y5 x0 x1 x2 x3 x4 x5
        clear hF
        go_wp2_with fail
        refine bodyPost_ret (v := .tuple #[pcV p, .int .i64 0]) (by simp [results, Try.results43, go_sem, pcV, y0, y1, y2, y3, y4, y5]) rfl ⟨by rw [HX.out, HYES.out]; rfl, ?_⟩
        repeat (refine Below.setCell ?_ (by simp) _)
        exact HL.out

      · have HNO := Lib.hid (show readP s = none by rw [HRP.out, if_neg (fun k => hps2 k.2)])
        rw [decide_eq_false hps2] at heq
        clear hps2 hr
        go_wp2_with fail
        refine wp_region_kept (RdW w bv p w1.heap.size) (by kernel_rfl) (by kernel_rfl) HS.out ?_
        intro hne
        have f0 : ∀ x : HeldW (RdW w bv p w1.heap.size), x.w.cell? ⟨w1.heap.size, 0, none⟩ = some (.int .u64 p.stamp) := fun x => by rw [cellH x.ok.pc]; rfl
        have f1 : ∀ x : HeldW (RdW w bv p w1.heap.size), x.w.cell? ⟨w1.heap.size, 1, none⟩ = some (.int .i64 p.gen) := fun x => by rw [cellH x.ok.pc]; rfl
        have f2 : ∀ x : HeldW (RdW w bv p w1.heap.size), x.w.cell? ⟨w1.heap.size, 2, none⟩ = some (.int .i64 p.no) := fun x => by rw [cellH x.ok.pc]; rfl
        have f3 : ∀ x : HeldW (RdW w bv p w1.heap.size), x.w.cell? ⟨w1.heap.size, 3, none⟩ = some (.int .i64 p.idx) := fun x => by rw [cellH x.ok.pc]; rfl
        have f4 : ∀ x : HeldW (RdW w bv p w1.heap.size), x.w.cell? ⟨w1.heap.size, 4, none⟩ = some (.int .i64 p.tot) := fun x => by rw [cellH x.ok.pc]; rfl
        have f5 : ∀ x : HeldW (RdW w bv p w1.heap.size), x.w.cell? ⟨w1.heap.size, 5, none⟩ = some (.string p.data) := fun x => by rw [cellH x.ok.pc]; rfl
        have f6 : ∀ x : HeldW (RdW w bv p w1.heap.size), (loadS 103 (.pointer (some ⟨w.heap.size + 1, 0, none⟩))).run Try.prog x.w = .ok (.agg bv) x.w := fun x => run_loadS (P := Try.prog) x.ok.blk Try.underlying103 rfl (by rw [hsz, hbl])
        repeat (go_big_quiet_step (first | (go_at_call 51; exact kept_of RdW.keep (RI.out _)) | (go_at_call 52; exact kept_of RdW.keep (FR.out _))))
        refine wpQuiet_nil ?_
        rintro W1 ⟨⟨_, hF⟩, rfl⟩
        clear f0 f1 f2 f3 f4 f5 f6 hne HS
        have HL := Lib.hid hF.low
        have y0 := cellH hF.res 0
        have y1 := cellH hF.res 1
        have y2 := cellH hF.res 2
        have y3 := cellH hF.res 3
        have y4 := cellH hF.res 4
        have y5 := cellH hF.res 5
        have yf := freeH hF.res
        simp at y0 y1 y2 y3 y4 y5
        clear hF
        go_wp2_with fail
        refine bodyPost_ret (v := .tuple #[pcV noPc, .int .i64 3]) (by simp [results, Try.results43, go_sem, pcV, noPc, y0, y1, y2, y3, y4, y5]) rfl ⟨by rw [HX.out, HNO.out]; rfl, ?_⟩
        repeat (refine Below.setCell ?_ (by simp) _)
        exact HL.out

  · have hsb : ((s.size : Int) != 64) = true := by simp; omega
    go_enter Try.func43, Try.ntmps43
    go_wp2_with fail
    refine bodyPost_ret (v := .tuple #[pcV noPc, .int .i64 3]) (by simp [results, Try.results43, go_sem, pcV, noPc]) rfl ⟨by rw [HX.out, readP_size hs]; rfl, ?_⟩
    repeat (refine Below.setCell ?_ (by simp) _)
    exact (Below.refl w.heap.size w).alloc (Nat.le_refl _) _
end Go.Proofs.Ytbdgmddlghhkjaa
