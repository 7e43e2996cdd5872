/-
  What the program's Lay (package sector) answers: a text's sectors. No conditions but the numbers' types and the text's length.
-/
import Derived.Test.YtbdgmddlghhkjaaSecW
namespace Go.Proofs.Ytbdgmddlghhkjaa
open Go.RowKit

theorem right_lay (s : ByteArray) (stamp gen no : Int) : rightP ⟨stamp, gen, no, 0, cntN s.size, ⟨#[]⟩⟩ = layOk s gen no := by
  have h1 := cnt_pos s.size
  have h2 : (⟨#[]⟩ : ByteArray).size = 0 := rfl
  rw [Bool.eq_iff_iff]
  simp only [rightP, layOk, Bool.and_eq_true, decide_eq_true_eq, h2]
  omega

theorem info_str3 : (Try.prog.info? 9).map (fun i => (i.zero, i.size, i.bytes)) = some (some (.string ⟨#[]⟩), 1, 16) := by kernel_rfl

theorem row_set {w : World} {g : Nat} {cs : Array Value} {t : TypeId} {m : Nat × Nat} (hg : w.heap[g]? = some (.cells cs t m)) {i : Nat} {v : Value} : (w.setCell ⟨g, i, none⟩ v).heap[g]? = some (.cells (cs.setIfInBounds i v) t m) := by
  rw [setCell_eq_setRow w g i cs t m v hg]
  exact setRow_heap _ _ _ _ _ _ hg
theorem lay_data (s r : ByteArray) (k j : Nat) (hr : r = s.extract (min s.size (37 * k)) s.size) (hj : j = min r.size 37) :
    r.extract 0 j = s.extract (min s.size (37 * k)) (min s.size (37 * k + 37)) ∧ r.extract j r.size = s.extract (min s.size (37 * (k + 1))) s.size := by
  have hrs : r.size = s.size - 37 * k := by rw [hr, ByteArray.size_extract]; omega
  have hb : bl r = (bl s).drop (min s.size (37 * k)) := by
    rw [hr, bl_extract, List.take_of_length_le (by rw [bl_len]; exact Nat.le_refl _)]
  constructor
  · apply bl_inj
    rw [bl_extract, bl_extract, hb, List.drop_zero, List.drop_take]
    congr 1
    omega
  · apply bl_inj
    rw [bl_extract, bl_extract, List.take_of_length_le (by rw [bl_len]; exact Nat.le_refl _), hb, List.drop_drop, List.take_of_length_le (by rw [bl_len]; exact Nat.le_refl _)]
    congr 1
    omega

/-- What lies in memory while a text is laid: the piece, the row of sectors so far. -/
structure LyW (w : World) (stamp gen no : Int) (n g : Nat) (idx : Int) (d : ByteArray) (L : List ByteArray) (W : World) : Prop where
  pc : W.heap[w.heap.size]? = some (.cells #[.int .u64 stamp, .int .i64 gen, .int .i64 no, .int .i64 idx, .int .i64 n, .string d] 85 (0, 0))
  row : W.heap[g]? = some (.cells (L.map Value.string ++ List.replicate (n - L.length) (Value.string ⟨#[]⟩)).toArray 9 (0, 0))
  low : Below w.heap.size w W
  ge : w.heap.size < g
section
variable {w W W' : World} {stamp gen no idx : Int} {n g : Nat} {d : ByteArray} {L : List ByteArray}
theorem LyW.later (h : LyW w stamp gen no n g idx d L W) (hb : Below W.heap.size W W') : LyW w stamp gen no n g idx d L W' := ⟨later_at hb h.pc, later_at hb h.row, below_step h.low hb, h.ge⟩
theorem LyW.set3 (h : LyW w stamp gen no n g idx d L W) (i : Int) : LyW w stamp gen no n g i d L (W.setCell ⟨w.heap.size, 3, none⟩ (.int .i64 i)) :=
  ⟨by rw [row_set h.pc]; rfl, (Below.heap_setCell W ⟨w.heap.size, 3, none⟩ _ g (by have := h.ge; simp; omega)).trans h.row, h.low.setCell (Nat.le_refl _) _, h.ge⟩
theorem LyW.set5 (h : LyW w stamp gen no n g idx d L W) (t : ByteArray) : LyW w stamp gen no n g idx t L (W.setCell ⟨w.heap.size, 5, none⟩ (.string t)) :=
  ⟨by rw [row_set h.pc]; rfl, (Below.heap_setCell W ⟨w.heap.size, 5, none⟩ _ g (by have := h.ge; simp; omega)).trans h.row, h.low.setCell (Nat.le_refl _) _, h.ge⟩
theorem LyW.put (h : LyW w stamp gen no n g idx d L W) (hl : L.length < n) (t : ByteArray) : LyW w stamp gen no n g idx d (L ++ [t]) (W.setCell ⟨g, L.length, none⟩ (.string t)) := by
  refine ⟨(Below.heap_setCell W ⟨g, L.length, none⟩ _ w.heap.size (by have := h.ge; simp; omega)).trans h.pc, ?_, h.low.setCell (by have := h.ge; simp; omega) _, h.ge⟩
  rw [row_set h.row]
  have e : n - L.length = (n - (L ++ [t]).length) + 1 := by simp; omega
  rw [e, List.replicate_succ]
  simp
end

set_option maxHeartbeats 1000000 in
set_option maxRecDepth 100000 in
theorem lay_is (s : ByteArray) (hs : s.size ≤ 9223372036854775807) (stamp gen no : Int) (h0 : 0 ≤ stamp) (h1 : stamp < 18446744073709551616) (w : World) :
    Calls Try.prog 56 #[.string s, .int .u64 stamp, .int .i64 gen, .int .i64 no] w fun e w' => Below w.heap.size w w' ∧
      ((layOk s gen no = false ∧ e = .returned (.tuple #[.slice none 0 0, .int .i64 1])) ∨ (layOk s gen no = true ∧ ∃ g, w.heap.size ≤ g ∧ e = .returned (.tuple #[.slice (some ⟨g, 0, none⟩) (cntN s.size) (cntN s.size), .int .i64 0]) ∧
        w'.heap[g]? = some (.cells ((layL s stamp gen no).map .string).toArray 9 (0, 0)))) := by
  have hcn := cntI_nat s.size
  obtain ⟨n, hn⟩ : ∃ n, n = cntN s.size := ⟨_, rfl⟩
  rw [← hn] at hcn
  have CO := Lib.hid (fun w => count_is s.size (by omega) (by omega) w)
  rw [hcn] at CO
  have RI := Lib.hid (fun w : World => right_is stamp gen no 0 n ⟨#[]⟩ w)
  have hrl := right_lay s stamp gen no
  rw [← hn] at hrl
  rw [hrl] at RI
  rw [← hn]
  have HN := Lib.hid hn
  clear hn hrl hcn
  go_enter Try.func56, Try.ntmps56
  go_wp2_with fail
  refine (CO.out _).mono ?_
  rintro e w1 ⟨rfl, hw1⟩
  subst hw1
  go_wp2_with fail
  refine (RI.out _).mono ?_
  rintro e w1 ⟨rfl, hb1⟩
  have HB1 := Lib.hid (below_step ((Below.refl w.heap.size w).alloc (Nat.le_refl _) (.cells #[.int .u64 stamp, .int .i64 gen, .int .i64 no, .int .i64 0, .int .i64 n, .string ⟨#[]⟩] 85)) hb1)
  have HZ1 := Lib.hid (show w1.heap[w.heap.size]? = some (.cells #[.int .u64 stamp, .int .i64 gen, .int .i64 no, .int .i64 0, .int .i64 n, .string ⟨#[]⟩] 85 (0, 0)) from later_at hb1 (made_at _ _))
  clear hb1
  have z4 := cellH HZ1.out 4
  simp at z4
  cases hr : layOk s gen no
  · have HR := Lib.hid hr
    clear hr
    go_wp2_with fail
    refine bodyPost_ret (v := .tuple #[.slice none 0 0, .int .i64 1]) (by simp [results, Try.results56, go_sem]) rfl ⟨HB1.out, .inl ⟨HR.out, rfl⟩⟩
  · have HR := Lib.hid hr
    clear hr
    have hn1 : n < 65536 := by
      have := HR.out
      simp only [layOk, Bool.and_eq_true, decide_eq_true_eq] at this
      rw [HN.out]
      exact this.2
    obtain ⟨i0, hi, hz0, hz1, hz2⟩ := info_parts info_str3
    have hmk := run_make (P := Try.prog) w1 35 9 i0 (.string ⟨#[]⟩) Try.underlying35 hi hz0 .i64 .i64 n n (by omega) (by omega) (by rw [hz2]; omega) (by omega)
    simp [hz1, Value.cells] at hmk
    go_wp2_with fail
    have HL0 := Lib.hid (show LyW w stamp gen no n w1.heap.size 0 ⟨#[]⟩ [] (w1.alloc (.cells (madeCells #[.string ⟨#[]⟩] n) 9)) from
      ⟨later_at ((Below.refl _ _).alloc (Nat.le_refl _) _) HZ1.out, by
        rw [made_at]
        have : madeCells #[.string ⟨#[]⟩] n = (List.replicate n (Value.string ⟨#[]⟩)).toArray := Array.toList_inj.1 (toList_madeCells_one (.string ⟨#[]⟩) n)
        rw [this]
        simp, HB1.out.alloc HB1.out.size _, (Array.getElem?_eq_some_iff.1 HZ1.out).1⟩)
    have hgs := (Array.getElem?_eq_some_iff.1 HZ1.out).1
    generalize w1.alloc (.cells (madeCells #[.string ⟨#[]⟩] n) 9) = W0 at *
    generalize w1.heap.size = g at *
    clear hmk hi hz0 hz1 hz2 HZ1 HB1 z4 CO RI
    go_loopw [0, 29] (fun v i wr => ∃ k : Nat, k ≤ n ∧ i = .int .i64 k ∧ v = .string (s.extract (min s.size (37 * k)) s.size) ∧ ∃ idx d, LyW w stamp gen no n g idx d ((layL s stamp gen no).take k) wr) (fun _ i _ => n - (intOf i).toNat)
    case atStart => exact ⟨0, Nat.zero_le _, rfl, by simp, 0, ⟨#[]⟩, HL0.out⟩
    case round =>
      obtain ⟨k, hk, rfl, rfl, idx, d, hLW⟩ := hrel
      have HLW := Lib.hid hLW
      clear hLW
      by_cases hlt : k < n
      · have hkl : k < cntN s.size := by rw [← HN.out]; exact hlt
        obtain ⟨r, hr⟩ : ∃ r, r = s.extract (min s.size (37 * k)) s.size := ⟨_, rfl⟩
        have hrs : r.size = s.size - 37 * k := by rw [hr, ByteArray.size_extract]; omega
        obtain ⟨j, hj⟩ : ∃ j, j = min r.size 37 := ⟨_, rfl⟩
        have hjm : minI (r.size : Int) 37 = j := by unfold minI; split <;> omega
        have hj1 : (j : Int) ≤ r.size := by omega
        have hj2 : j ≤ r.size := by omega
        have hj0 : (0 : Int) ≤ j := by omega
        obtain ⟨t, ht⟩ : ∃ t, t = r.extract 0 j := ⟨_, rfl⟩
        have hts : t.size = j := by rw [ht, ByteArray.size_extract]; omega
        obtain ⟨hd1, hd2⟩ := lay_data s r k j hr hj
        have HP := Lib.hid (show (⟨stamp, gen, no, (k : Int), (n : Int), t⟩ : Pc) = pieceI s stamp gen no k by rw [ht, hd1, HN.out]; rfl)
        have HR2 := Lib.hid hd2
        rw [← hr]
        have hok : (⟨stamp, gen, no, (k : Int), (n : Int), t⟩ : Pc).Ok := by
          rw [HP.out]
          exact (rightP_iff _).1 ((piece_right hkl).trans HR.out)
        have FR := Lib.hid (framed_is ⟨stamp, gen, no, k, n, t⟩ hok ⟨h0, h1⟩)
        have hps := print_size hok.d
        have hpb : printB (⟨stamp, gen, no, (k : Int), (n : Int), t⟩ : Pc) = printB (pieceI s stamp gen no k) := by rw [HP.out]
        rw [hpb] at FR hps
        change Hid (∀ w : World, Calls Try.prog 52 #[.agg #[.int .u64 stamp, .int .i64 gen, .int .i64 no, .int .i64 (k : Int), .int .i64 (n : Int), .string t]] w _) at FR
        have HLL := Lib.hid (show (layL s stamp gen no).take (k + 1) = (layL s stamp gen no).take k ++ [printB (pieceI s stamp gen no k)] by
          rw [List.take_add_one, layL_at hkl]; rfl)
        have hLlen : ((layL s stamp gen no).take k).length = k := by rw [List.length_take, layL_len]; omega
        generalize hL : (layL s stamp gen no).take k = L at HLW HLL hLlen
        generalize printB (pieceI s stamp gen no k) = pb at FR hps HLL
        have HT := Lib.hid ht
        clear hr hrs hj ht hkl hok hL hd1 hd2 hpb HP
        have a1 := cellH HLW.out.pc 3
        have a2 := cellH HLW.out.pc 5
        have a3 := freeH HLW.out.pc
        simp at a1 a2
        go_wp2_with fail
        refine wp_region_first 7 3 (by kernel_rfl) (by kernel_rfl) rfl (by kernel_rfl) (fun _ _ _ _ _ h => h) ?_
        simp only [List.take_succ_cons, List.take_zero]
        (refine stillL_val _ (fun w => (by go_simp; try with_reducible rfl)) ?_; simp only [Act.put, List.setIfInBounds_toArray, List.set_cons_zero, List.set_cons_succ])
        (refine stillL_val _ (fun w => (by go_simp; try with_reducible rfl)) ?_; simp only [Act.put, List.setIfInBounds_toArray, List.set_cons_zero, List.set_cons_succ])
        (refine stillL_val _ (fun w => (by go_simp; try with_reducible rfl)) ?_; simp only [Act.put, List.setIfInBounds_toArray, List.set_cons_zero, List.set_cons_succ])
        (refine stillL_val _ (fun w => (by go_simp; try with_reducible rfl)) ?_; simp only [Act.put, List.setIfInBounds_toArray, List.set_cons_zero, List.set_cons_succ])
        (refine stillL_val _ (fun w => (by go_simp; try with_reducible rfl)) ?_; simp only [Act.put, List.setIfInBounds_toArray, List.set_cons_zero, List.set_cons_succ])
        (refine stillL_val _ (fun w => (by go_simp; try with_reducible rfl)) ?_; simp only [Act.put, List.setIfInBounds_toArray, List.set_cons_zero, List.set_cons_succ])
        (refine stillL_val _ (fun w => (by go_simp; try with_reducible rfl)) ?_; simp only [Act.put, List.setIfInBounds_toArray, List.set_cons_zero, List.set_cons_succ])
        show wpAny _ _ _ _ 3 _ _ _
        refine one_ready (i := 7) (by kernel_rfl) (wpOp_step rfl (fun K' hK' => ?_))
        go_simp
        refine hK' _ _ ?_
        clear hK' K'
        refine one_ready (i := 8) (by kernel_rfl) (wpOp_step rfl (fun K' hK' => ?_))
        go_simp
        refine hK' _ _ ?_
        clear hK' K'
        refine one_ready (i := 9) (by kernel_rfl) (wpOp_step rfl (fun K' hK' => ?_))
        go_simp
        refine hK' _ _ ?_
        clear hK' K'
        refine ⟨by kernel_rfl, ?_⟩
        rw [← HT.out]
        have HL2 := Lib.hid (((HLW.out.set3 k).set5 t).later (Below.refl _ _).drew)
        generalize ((wr.setCell ⟨w.heap.size, 3, none⟩ (.int .i64 (k : Int))).setCell ⟨w.heap.size, 5, none⟩ (.string t)).drew = W2 at HL2 ⊢
        clear a1 a2 a3 HLW
        have z0 := cellH HL2.out.pc 0
        have z1 := cellH HL2.out.pc 1
        have z2 := cellH HL2.out.pc 2
        have z3 := cellH HL2.out.pc 3
        have z4 := cellH HL2.out.pc 4
        have z5 := cellH HL2.out.pc 5
        simp at z0 z1 z2 z3 z4 z5
        go_wp2_with fail
        refine (FR.out _).mono ?_
        rintro e w3 ⟨rfl, hb3⟩
        have HL3 := Lib.hid (HL2.out.later hb3)
        clear z0 z1 z2 z3 z4 z5 HL2 hb3 FR
        obtain ⟨bv, hbv⟩ : ∃ bv, bv = bytesV pb := ⟨_, rfl⟩
        have hbl : bv.length = 64 := by rw [hbv, bytesV_len, hps]
        have hb1 : bv.toArray.all (·.oneCell') = true := by rw [hbv]; simp; exact bytesV_one _
        rw [← hbv]
        obtain ⟨hz, hsz⟩ := zero_of_info info_blk
        obtain ⟨z, hzd⟩ : ∃ z, z = z64 := ⟨_, rfl⟩
        rw [← hzd] at hz
        have hzl : z.length = 64 := by rw [hzd]; rfl
        have hzn : z ≠ [] := by intro e; rw [e] at hzl; simp at hzl
        have hst := run_storeCells_new (P := Try.prog) w3 103 z.toArray bv.toArray (by rw [hsz]; simp [hbl]) (by simp [hzl, hbl]) hb1
        simp at hst
        have hcv := conv_row (w := w3.alloc (.cells bv.toArray 103)) (g := w3.heap.size) (cap := 64) (s := pb) (t := 103) (fr := (0, 0)) (by rw [← hbv]; exact made_at _ _) 64 hps.symm
        have HL4 := Lib.hid (HL3.out.later ((Below.refl _ _).alloc (Nat.le_refl _) (.cells bv.toArray 103)))
        have y1 := cellH HL4.out.row k
        have y2 := freeH HL4.out.row k
        have y3 : (L.map Value.string ++ List.replicate (n - L.length) (Value.string ⟨#[]⟩)).toArray[k]? = some (.string ⟨#[]⟩) := by
          rw [List.getElem?_toArray, List.getElem?_append_right (by rw [List.length_map]; omega), List.getElem?_replicate, if_pos (by rw [List.length_map]; omega)]
        rw [y3] at y1
        clear hb1 hbv hzd y3 HL3
        go_wp2_with fail
        go_roundw
        case rel => exact ⟨k + 1, by omega, by go_num, by rw [HR2.out], k, t, by
          have := HL4.out.put (by omega) pb
          rw [hLlen] at this
          rw [HLL.out]
          exact this⟩
        case measure => simp [intOf]; omega
      · obtain rfl : k = n := by omega
        have HF := Lib.hid (show wr.heap[g]? = some (.cells ((layL s stamp gen no).map Value.string).toArray 9 (0, 0)) by
          have := HLW.out.row
          have hl : (layL s stamp gen no).length = k := by rw [layL_len, ← HN.out]
          rw [List.take_of_length_le (by omega), hl, Nat.sub_self] at this
          simpa using this)
        go_wp2_with fail
        refine bodyPost_ret (v := .tuple #[.slice (some ⟨g, 0, none⟩) k k, .int .i64 0]) (by simp [results, Try.results56, go_sem]) rfl ⟨HLW.out.low, .inr ⟨HR.out, g, by omega, rfl, HF.out⟩⟩
end Go.Proofs.Ytbdgmddlghhkjaa
