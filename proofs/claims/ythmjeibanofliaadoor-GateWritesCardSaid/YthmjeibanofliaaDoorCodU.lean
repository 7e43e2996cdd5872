/-
  The program's Reader: what each call answers and leaves. Conditions: how the Reader lies, what the package-level variables hold, a text's length.
-/
import Derived.Test.YthmjeibanofliaaDoorCodT
import Derived.Test.YthmjeibanofliaaDoorCodF
namespace Go.Proofs.YthmjeibanofliaaDoor
open Go.RowKit

/-- The program's Reader: what is left, and whether something was wrong. -/
def RdAt (w : World) (R : Nat) (s : ByteArray) (b : Bool) : Prop := w.heap[R]? = some (.cells #[.string s, .bool b] 48 (0, 0))
section
variable {w : World} {R : Nat} {s : ByteArray} {b : Bool}
theorem RdAt.low (h : RdAt w R s b) : R < w.heap.size := (Array.getElem?_eq_some_iff.1 h).1
theorem RdAt.only {w' : World} {Q : Nat} (h : RdAt w R s b) (ho : Only1 Q w w') (hn : R ≠ Q) : RdAt w' R s b := by
  have h' : w.heap[R]? = some (.cells #[.string s, .bool b] 48 (0, 0)) := h
  show w'.heap[R]? = _
  rw [ho.block R (Array.getElem?_eq_some_iff.1 h').1 hn]
  exact h'
theorem RdAt.below {w' : World} (h : RdAt w R s b) (hb : Below w.heap.size w w') : RdAt w' R s b := by
  show w'.heap[R]? = _
  rw [hb.block R h.low]
  exact h

set_option maxHeartbeats 1000000 in
set_option maxRecDepth 100000 in
theorem new_is (s : ByteArray) (w : World) : Calls Tryd.prog 7 #[.string s] w fun e w' => ∃ R, e = .returned (.pointer (some ⟨R, 0, none⟩)) ∧ w.heap.size ≤ R ∧ RdAt w' R s false ∧ Below w.heap.size w w' := by
  go_enter Tryd.func7, Tryd.ntmps7
  go_wp2_with fail
  go_ret
  exact ⟨w.heap.size, rfl, Nat.le_refl _, made_at w _, (Below.refl _ _).alloc (Nat.le_refl _) _⟩

set_option maxHeartbeats 1000000 in
set_option maxRecDepth 100000 in
theorem ok_is (h : RdAt w R s b) : Calls Tryd.prog 14 #[.pointer (some ⟨R, 0, none⟩)] w fun e w' => e = .returned (.bool (!b)) ∧ w = w' := by
  have z1 := cellH h 1
  simp at z1
  clear h
  go_enter Tryd.func14, Tryd.ntmps14
  go_wp2_with fail
  go_ret
  exact ⟨rfl, rfl⟩

set_option maxHeartbeats 1000000 in
set_option maxRecDepth 100000 in
theorem done_is (h : RdAt w R s b) : Calls Tryd.prog 12 #[.pointer (some ⟨R, 0, none⟩)] w fun e w' => e = .returned (.bool (!b && s.toList == [])) ∧ w = w' := by
  have HO := Lib.hid (ok_is h)
  have z0 := cellH h 0
  simp at z0
  clear h
  cases b with
  | true =>
    go_enter Tryd.func12, Tryd.ntmps12
    go_wp2_with fail
    refine HO.out.mono ?_
    rintro e w1 ⟨rfl, rfl⟩
    go_wp2_with fail
    go_ret
    exact ⟨rfl, rfl⟩
  | false =>
    go_enter Tryd.func12, Tryd.ntmps12
    go_wp2_with fail
    refine HO.out.mono ?_
    rintro e w1 ⟨rfl, rfl⟩
    go_wp2_with fail
    go_ret
    exact ⟨by simp, rfl⟩

/-! ### Int -/
theorem set_wrong (h : RdAt w R s b) : RdAt (w.setCell ⟨R, 1, none⟩ (.bool true)) R s true := by
  show _ = _
  rw [row_set h]; rfl
theorem set_left (h : RdAt w R s b) (t : ByteArray) : RdAt (w.setCell ⟨R, 0, none⟩ (.string t)) R t b := by
  show _ = _
  rw [row_set h]; rfl
set_option maxHeartbeats 1000000 in
set_option maxRecDepth 100000 in
theorem int_bad (h : RdAt w R s true) (lo hi : Int) :
    Calls Tryd.prog 20 #[.pointer (some ⟨R, 0, none⟩), .int .i64 lo, .int .i64 hi] w fun e w' => e = .returned (.int .i64 0) ∧ RdAt w' R s true ∧ Only1 R w w' := by
  have HO := Lib.hid (ok_is h)
  have HH := Lib.hid h
  clear h
  go_enter Tryd.func20, Tryd.ntmps20
  go_wp2_with fail
  refine HO.out.mono ?_
  rintro e w1 ⟨rfl, rfl⟩
  clear HO
  go_wp2_with fail
  go_ret
  exact ⟨rfl, HH.out, Only1.of_below (Below.refl _ _)⟩
set_option maxHeartbeats 1000000 in
set_option maxRecDepth 100000 in
theorem int_uncut (h : RdAt w R s false) (hV : VarsAt w) (hS : s.size ≤ 1000000000) (lo hi : Int) (hi1 : Lib.indexByte (bl s) 44 = -1) :
    Calls Tryd.prog 20 #[.pointer (some ⟨R, 0, none⟩), .int .i64 lo, .int .i64 hi] w fun e w' => e = .returned (.int .i64 0) ∧ RdAt w' R s true ∧ Only1 R w w' := by
  have HO := Lib.hid (ok_is h)
  have HC := Lib.hid (cut_none w s hi1)
  have HH := Lib.hid h
  have HV := Lib.hid hV
  have z0 := cellH h 0
  simp at z0
  clear h hV hi1
  go_enter Tryd.func20, Tryd.ntmps20
  go_wp2_with fail
  refine HO.out.mono ?_
  rintro e w1 ⟨rfl, rfl⟩
  go_wp2_with fail
  refine HC.out.mono ?_
  rintro e w1 ⟨rfl, hb1⟩
  have HB1 := Lib.hid hb1
  have HV1 := Lib.hid (HV.out.later hb1)
  have HH1 := Lib.hid (HH.out.below hb1)
  clear hb1 HO HC HV HH z0
  go_wp2_with fail
  by_cases hy : ∃ v, Lib.atoiAll (bl s) = .ok v
  · obtain ⟨v, hv⟩ := hy
    refine (atoi_yes w1 s hS v hv).mono ?_
    rintro e w2 ⟨rfl, hb2⟩
    have HB2 := Lib.hid (below_step HB1.out hb2)
    have HH2 := Lib.hid (HH1.out.below hb2)
    have zf := freeH HH2.out
    have z1 := cellH HH2.out 1
    simp at z1
    clear hb2 hv HB1 HV1 HH1
    go_wp2_with fail
    go_ret
    exact ⟨rfl, set_wrong HH2.out, (Only1.of_below HB2.out).trans (Only1.set _)⟩
  · refine (atoi_no HV1.out s hS (fun v hv => hy ⟨v, hv⟩)).mono ?_
    rintro e w2 ⟨v, tp, p, rfl, hb2⟩
    have HB2 := Lib.hid (below_step HB1.out hb2)
    have HH2 := Lib.hid (HH1.out.below hb2)
    have zf := freeH HH2.out
    have z1 := cellH HH2.out 1
    simp at z1
    clear hb2 hy HB1 HV1 HH1
    go_wp2_with fail
    go_ret
    exact ⟨rfl, set_wrong HH2.out, (Only1.of_below HB2.out).trans (Only1.set _)⟩
set_option maxHeartbeats 2000000 in
set_option maxRecDepth 100000 in
theorem int_none (h : RdAt w R s false) (hV : VarsAt w) (hS : s.size ≤ 1000000000) (lo hi : Int) (o : Nat) (ho : Lib.indexByte (bl s) 44 = o) (hno : ∀ v, Lib.atoiAll ((bl s).take o) ≠ .ok v) :
    Calls Tryd.prog 20 #[.pointer (some ⟨R, 0, none⟩), .int .i64 lo, .int .i64 hi] w fun e w' => e = .returned (.int .i64 0) ∧ RdAt w' R s true ∧ Only1 R w w' := by
  have HO := Lib.hid (ok_is h)
  have HC := Lib.hid (cut_some w s hS o ho)
  have HH := Lib.hid h
  have HV := Lib.hid hV
  have z0 := cellH h 0
  simp at z0
  have hos := size_cut ho
  have htk : bl (s.extract 0 o) = (bl s).take o := by rw [bl_extract, List.drop_zero]
  have hpz : (s.extract 0 o).size ≤ 1000000000 := by rw [ByteArray.size_extract]; omega
  clear h hV ho
  go_enter Tryd.func20, Tryd.ntmps20
  go_wp2_with fail
  refine HO.out.mono ?_
  rintro e w1 ⟨rfl, rfl⟩
  go_wp2_with fail
  refine HC.out.mono ?_
  rintro e w1 ⟨rfl, hb1⟩
  have HB1 := Lib.hid hb1
  have HV1 := Lib.hid (HV.out.later hb1)
  have HH1 := Lib.hid (HH.out.below hb1)
  clear hb1 HO HC HV HH z0
  generalize s.extract 0 o = d at *
  generalize s.extract (o + 1) s.size = t at *
  go_wp2_with fail
  refine (atoi_no HV1.out d hpz (by rw [htk]; exact hno)).mono ?_
  rintro e w2 ⟨v, tp, p, rfl, hb2⟩
  clear hno htk
  have HB2 := Lib.hid (below_step HB1.out hb2)
  have HH2 := Lib.hid (HH1.out.below hb2)
  have HV2 := Lib.hid (HV1.out.later hb2)
  clear hb2 HB1 HV1 HH1
  have zf := freeH HH2.out
  have z1 := cellH HH2.out 1
  have z0 := cellH HH2.out 0
  simp at z1 z0
  go_wp2_with fail
  go_ret
  exact ⟨rfl, set_wrong HH2.out, (Only1.of_below HB2.out).trans (Only1.set _)⟩
set_option maxHeartbeats 2000000 in
set_option maxRecDepth 100000 in
theorem int_other (h : RdAt w R s false) (hV : VarsAt w) (hS : s.size ≤ 1000000000) (lo hi : Int) (o : Nat) (ho : Lib.indexByte (bl s) 44 = o) (n : Int) (hn : Lib.atoiAll ((bl s).take o) = .ok n) (hne : (bl s).take o ≠ headT n) :
    Calls Tryd.prog 20 #[.pointer (some ⟨R, 0, none⟩), .int .i64 lo, .int .i64 hi] w fun e w' => e = .returned (.int .i64 0) ∧ RdAt w' R s true ∧ Only1 R w w' := by
  have HO := Lib.hid (ok_is h)
  have HC := Lib.hid (cut_some w s hS o ho)
  have HH := Lib.hid h
  have HV := Lib.hid hV
  have z0 := cellH h 0
  simp at z0
  have hos := size_cut ho
  have htk : bl (s.extract 0 o) = (bl s).take o := by rw [bl_extract, List.drop_zero]
  have hpz : (s.extract 0 o).size ≤ 1000000000 := by rw [ByteArray.size_extract]; omega
  clear h hV ho
  go_enter Tryd.func20, Tryd.ntmps20
  go_wp2_with fail
  refine HO.out.mono ?_
  rintro e w1 ⟨rfl, rfl⟩
  go_wp2_with fail
  refine HC.out.mono ?_
  rintro e w1 ⟨rfl, hb1⟩
  have HB1 := Lib.hid hb1
  have HV1 := Lib.hid (HV.out.later hb1)
  have HH1 := Lib.hid (HH.out.below hb1)
  clear hb1 HO HC HV HH z0
  generalize s.extract 0 o = d at *
  generalize s.extract (o + 1) s.size = t at *
  go_wp2_with fail
  have hbd := Lib.atoiAll_bounds hn
  refine (atoi_yes w1 d hpz n (by rw [htk]; exact hn)).mono ?_
  rintro e w2 ⟨rfl, hb2⟩
  have HB2 := Lib.hid (below_step HB1.out hb2)
  have HH2 := Lib.hid (HH1.out.below hb2)
  have HV2 := Lib.hid (HV1.out.later hb2)
  clear hb2 HB1 HV1 HH1
  go_wp2_with fail
  refine (itoa_is HV2.out n hbd.1 hbd.2).mono ?_
  rintro e w3 ⟨rfl, hb3⟩
  have HB3 := Lib.hid (below_step HB2.out hb3)
  have HH3 := Lib.hid (HH2.out.below hb3)
  have zf := freeH HH3.out
  have z1 := cellH HH3.out 1
  have z0 := cellH HH3.out 0
  simp at z1 z0
  clear hb3 HB2 HV2 HH2 hn
  have hq : ((ofL (headT n)).toList == d.toList) = false := by
    rw [ba_beq]
    refine decide_eq_false fun e => hne ?_
    rw [← htk, ← e, bl_ofL]
  have hq2 : ((ofL (headT n)).toList != d.toList) = true := by rw [bne, hq]; rfl
  clear hne htk
  generalize ofL (headT n) = x at *
  go_wp2_with fail
  go_ret
  exact ⟨rfl, set_wrong HH3.out, (Only1.of_below HB3.out).trans (Only1.set _)⟩
set_option maxHeartbeats 2000000 in
set_option maxRecDepth 100000 in
theorem int_low (h : RdAt w R s false) (hV : VarsAt w) (hS : s.size ≤ 1000000000) (lo hi : Int) (o : Nat) (ho : Lib.indexByte (bl s) 44 = o) (n : Int) (hn : Lib.atoiAll ((bl s).take o) = .ok n) (he : (bl s).take o = headT n) (hl : n < lo) :
    Calls Tryd.prog 20 #[.pointer (some ⟨R, 0, none⟩), .int .i64 lo, .int .i64 hi] w fun e w' => e = .returned (.int .i64 0) ∧ RdAt w' R s true ∧ Only1 R w w' := by
  have HO := Lib.hid (ok_is h)
  have HC := Lib.hid (cut_some w s hS o ho)
  have HH := Lib.hid h
  have HV := Lib.hid hV
  have z0 := cellH h 0
  simp at z0
  have hos := size_cut ho
  have htk : bl (s.extract 0 o) = (bl s).take o := by rw [bl_extract, List.drop_zero]
  have hpz : (s.extract 0 o).size ≤ 1000000000 := by rw [ByteArray.size_extract]; omega
  clear h hV ho
  go_enter Tryd.func20, Tryd.ntmps20
  go_wp2_with fail
  refine HO.out.mono ?_
  rintro e w1 ⟨rfl, rfl⟩
  go_wp2_with fail
  refine HC.out.mono ?_
  rintro e w1 ⟨rfl, hb1⟩
  have HB1 := Lib.hid hb1
  have HV1 := Lib.hid (HV.out.later hb1)
  have HH1 := Lib.hid (HH.out.below hb1)
  clear hb1 HO HC HV HH z0
  generalize s.extract 0 o = d at *
  generalize s.extract (o + 1) s.size = t at *
  go_wp2_with fail
  have hbd := Lib.atoiAll_bounds hn
  refine (atoi_yes w1 d hpz n (by rw [htk]; exact hn)).mono ?_
  rintro e w2 ⟨rfl, hb2⟩
  have HB2 := Lib.hid (below_step HB1.out hb2)
  have HH2 := Lib.hid (HH1.out.below hb2)
  have HV2 := Lib.hid (HV1.out.later hb2)
  clear hb2 HB1 HV1 HH1
  go_wp2_with fail
  refine (itoa_is HV2.out n hbd.1 hbd.2).mono ?_
  rintro e w3 ⟨rfl, hb3⟩
  have HB3 := Lib.hid (below_step HB2.out hb3)
  have HH3 := Lib.hid (HH2.out.below hb3)
  have zf := freeH HH3.out
  have z1 := cellH HH3.out 1
  have z0 := cellH HH3.out 0
  simp at z1 z0
  clear hb3 HB2 HV2 HH2 hn
  have hd : ofL (headT n) = d := by apply bl_inj; rw [bl_ofL, htk, he]
  rw [hd]
  have hq2 : (d.toList != d.toList) = false := by simp
  clear he htk hd
  go_wp2_with fail
  go_ret
  exact ⟨rfl, set_wrong HH3.out, (Only1.of_below HB3.out).trans (Only1.set _)⟩
set_option maxHeartbeats 2000000 in
set_option maxRecDepth 100000 in
theorem int_high (h : RdAt w R s false) (hV : VarsAt w) (hS : s.size ≤ 1000000000) (lo hi : Int) (o : Nat) (ho : Lib.indexByte (bl s) 44 = o) (n : Int) (hn : Lib.atoiAll ((bl s).take o) = .ok n) (he : (bl s).take o = headT n) (hl : ¬ n < lo) (hh : hi < n) :
    Calls Tryd.prog 20 #[.pointer (some ⟨R, 0, none⟩), .int .i64 lo, .int .i64 hi] w fun e w' => e = .returned (.int .i64 0) ∧ RdAt w' R s true ∧ Only1 R w w' := by
  have HO := Lib.hid (ok_is h)
  have HC := Lib.hid (cut_some w s hS o ho)
  have HH := Lib.hid h
  have HV := Lib.hid hV
  have z0 := cellH h 0
  simp at z0
  have hos := size_cut ho
  have htk : bl (s.extract 0 o) = (bl s).take o := by rw [bl_extract, List.drop_zero]
  have hpz : (s.extract 0 o).size ≤ 1000000000 := by rw [ByteArray.size_extract]; omega
  clear h hV ho
  go_enter Tryd.func20, Tryd.ntmps20
  go_wp2_with fail
  refine HO.out.mono ?_
  rintro e w1 ⟨rfl, rfl⟩
  go_wp2_with fail
  refine HC.out.mono ?_
  rintro e w1 ⟨rfl, hb1⟩
  have HB1 := Lib.hid hb1
  have HV1 := Lib.hid (HV.out.later hb1)
  have HH1 := Lib.hid (HH.out.below hb1)
  clear hb1 HO HC HV HH z0
  generalize s.extract 0 o = d at *
  generalize s.extract (o + 1) s.size = t at *
  go_wp2_with fail
  have hbd := Lib.atoiAll_bounds hn
  refine (atoi_yes w1 d hpz n (by rw [htk]; exact hn)).mono ?_
  rintro e w2 ⟨rfl, hb2⟩
  have HB2 := Lib.hid (below_step HB1.out hb2)
  have HH2 := Lib.hid (HH1.out.below hb2)
  have HV2 := Lib.hid (HV1.out.later hb2)
  clear hb2 HB1 HV1 HH1
  go_wp2_with fail
  refine (itoa_is HV2.out n hbd.1 hbd.2).mono ?_
  rintro e w3 ⟨rfl, hb3⟩
  have HB3 := Lib.hid (below_step HB2.out hb3)
  have HH3 := Lib.hid (HH2.out.below hb3)
  have zf := freeH HH3.out
  have z1 := cellH HH3.out 1
  have z0 := cellH HH3.out 0
  simp at z1 z0
  clear hb3 HB2 HV2 HH2 hn
  have hd : ofL (headT n) = d := by apply bl_inj; rw [bl_ofL, htk, he]
  rw [hd]
  have hq2 : (d.toList != d.toList) = false := by simp
  clear he htk hd
  go_wp2_with fail
  go_ret
  exact ⟨rfl, set_wrong HH3.out, (Only1.of_below HB3.out).trans (Only1.set _)⟩
set_option maxHeartbeats 2000000 in
set_option maxRecDepth 100000 in
theorem int_good (h : RdAt w R s false) (hV : VarsAt w) (hS : s.size ≤ 1000000000) (lo hi : Int) (o : Nat) (ho : Lib.indexByte (bl s) 44 = o) (n : Int) (hn : Lib.atoiAll ((bl s).take o) = .ok n) (he : (bl s).take o = headT n) (hl : ¬ n < lo) (hh : ¬ hi < n) :
    Calls Tryd.prog 20 #[.pointer (some ⟨R, 0, none⟩), .int .i64 lo, .int .i64 hi] w fun e w' => e = .returned (.int .i64 n) ∧ RdAt w' R (s.extract (o + 1) s.size) false ∧ Only1 R w w' := by
  have HO := Lib.hid (ok_is h)
  have HC := Lib.hid (cut_some w s hS o ho)
  have HH := Lib.hid h
  have HV := Lib.hid hV
  have z0 := cellH h 0
  simp at z0
  have hos := size_cut ho
  have htk : bl (s.extract 0 o) = (bl s).take o := by rw [bl_extract, List.drop_zero]
  have hpz : (s.extract 0 o).size ≤ 1000000000 := by rw [ByteArray.size_extract]; omega
  clear h hV ho
  go_enter Tryd.func20, Tryd.ntmps20
  go_wp2_with fail
  refine HO.out.mono ?_
  rintro e w1 ⟨rfl, rfl⟩
  go_wp2_with fail
  refine HC.out.mono ?_
  rintro e w1 ⟨rfl, hb1⟩
  have HB1 := Lib.hid hb1
  have HV1 := Lib.hid (HV.out.later hb1)
  have HH1 := Lib.hid (HH.out.below hb1)
  clear hb1 HO HC HV HH z0
  generalize s.extract 0 o = d at *
  obtain ⟨t, ht⟩ : ∃ t, s.extract (o + 1) s.size = t := ⟨_, rfl⟩
  have HT := Lib.hid ht
  rw [ht]
  clear ht
  go_wp2_with fail
  have hbd := Lib.atoiAll_bounds hn
  refine (atoi_yes w1 d hpz n (by rw [htk]; exact hn)).mono ?_
  rintro e w2 ⟨rfl, hb2⟩
  have HB2 := Lib.hid (below_step HB1.out hb2)
  have HH2 := Lib.hid (HH1.out.below hb2)
  have HV2 := Lib.hid (HV1.out.later hb2)
  clear hb2 HB1 HV1 HH1
  go_wp2_with fail
  refine (itoa_is HV2.out n hbd.1 hbd.2).mono ?_
  rintro e w3 ⟨rfl, hb3⟩
  have HB3 := Lib.hid (below_step HB2.out hb3)
  have HH3 := Lib.hid (HH2.out.below hb3)
  have zf := freeH HH3.out
  have z1 := cellH HH3.out 1
  have z0 := cellH HH3.out 0
  simp at z1 z0
  clear hb3 HB2 HV2 HH2 hn
  have hd : ofL (headT n) = d := by apply bl_inj; rw [bl_ofL, htk, he]
  rw [hd]
  have hq2 : (d.toList != d.toList) = false := by simp
  clear he htk hd
  go_wp2_with fail
  go_ret
  exact ⟨rfl, by rw [HT.out]; exact set_left HH3.out t, (Only1.of_below HB3.out).trans (Only1.set _)⟩
theorem extract_tail (s : ByteArray) (o : Nat) : s.extract (o + 1) s.size = ofL ((bl s).drop (o + 1)) := by
  apply bl_inj
  rw [bl_extract, bl_ofL, ← bl_len, List.take_length]
/-- What the program's Int answers and leaves, of a Reader that has met nothing wrong. -/
theorem int_is (h : RdAt w R s b) (hV : VarsAt w) (lo hi : Int) (r : Option (Int × List UInt8)) (hr : Takes (bl s) lo hi r) (hS : s.size ≤ 1000000000) :
    Calls Tryd.prog 20 #[.pointer (some ⟨R, 0, none⟩), .int .i64 lo, .int .i64 hi] w fun e w' => e = .returned (.int .i64 (iV b r)) ∧ RdAt w' R (iS s b r) (iB b r) ∧ Only1 R w w' := by
  cases b with
  | true => exact int_bad h lo hi
  | false =>
    by_cases hc : Lib.indexByte (bl s) 44 = -1
    · rw [takes_uncut hc hr]; exact int_uncut h hV hS lo hi hc
    · obtain ⟨o, ho⟩ := index_nat hc
      have none_ : (¬ ∃ n, Lib.atoiAll ((bl s).take o) = .ok n ∧ (bl s).take o = headT n ∧ lo ≤ n ∧ n ≤ hi) → r = none := takes_not ho hr
      by_cases hn : ∃ n, Lib.atoiAll ((bl s).take o) = .ok n
      · obtain ⟨n, hn⟩ := hn
        have same : ∀ m, Lib.atoiAll ((bl s).take o) = .ok m → m = n := fun m hm => by rw [hn] at hm; injection hm with hm; exact hm.symm
        by_cases he : (bl s).take o = headT n
        · by_cases hl : n < lo
          · rw [none_ fun ⟨m, h1, _, h3, _⟩ => by rw [same m h1] at h3; omega]
            exact int_low h hV hS lo hi o ho n hn he hl
          · by_cases hh : hi < n
            · rw [none_ fun ⟨m, h1, _, _, h4⟩ => by rw [same m h1] at h4; omega]
              exact int_high h hV hS lo hi o ho n hn he hl hh
            · rw [takes_num ho hr hn he (by omega) (by omega)]
              refine (int_good h hV hS lo hi o ho n hn he hl hh).mono fun e w' g => ?_
              rw [extract_tail] at g
              exact g
        · rw [none_ fun ⟨m, h1, h2, _⟩ => he (by rw [h2, same m h1])]
          exact int_other h hV hS lo hi o ho n hn he
      · rw [none_ fun ⟨m, h1, _⟩ => hn ⟨m, h1⟩]
        exact int_none h hV hS lo hi o ho fun v hv => hn ⟨v, hv⟩
end
end Go.Proofs.YthmjeibanofliaaDoor
