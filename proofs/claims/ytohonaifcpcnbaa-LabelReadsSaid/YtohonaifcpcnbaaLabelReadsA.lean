/-
  The law LabelReads, walked: for any text and any label it answers true, and leaves all memory that was there as it was. No conditions but that the numbers fit their kinds.
-/
import Derived.Test.YtohonaifcpcnbaaLabelH
import Derived.OpenShut
namespace Go.Proofs.Ytohonaifcpcnbaa
open Go.RowKit

set_option maxHeartbeats 1000000 in
set_option maxRecDepth 100000 in
theorem labelReads_long (s : ByteArray) (l t : Int) (w : World) (hl : 100 < s.size) :
    Calls Try.prog 4 #[.string s, .agg #[.int .i64 l, .int .u16 t]] w fun e w' => e = .returned (.bool true) ∧ Below w.heap.size w w' := by
  have h3 : Below w.heap.size w (w.alloc (.cells #[.int .i64 l, .int .u16 t] 24)) := (Below.refl _ _).alloc (Nat.le_refl _) _
  have hz : (100 : Int) < (s.size : Int) := by omega
  go_enter Try.func4, Try.ntmps4
  go_wp2_with fail
  refine (awake_is _).mono ?_
  rintro e w1 ⟨rfl, b1⟩
  go_wp2_with fail
  refine (awake_is _).mono ?_
  rintro e w2 ⟨rfl, b2⟩
  go_wp2_with fail
  go_ret
  exact ⟨rfl, below_step (below_step h3 b1) b2⟩

set_option maxHeartbeats 2000000 in
set_option maxRecDepth 100000 in
theorem labelReads_good_right (s : ByteArray) (l t : Int) (w : World) (hl : s.size ≤ 100) (g : GoodText s) (r : rightB l = true) (ht0 : 0 ≤ t) (ht1 : t < 65536) :
    Calls Try.prog 4 #[.string s, .agg #[.int .i64 l, .int .u16 t]] w fun e w' => e = .returned (.bool true) ∧ Below w.heap.size w w' := by
  have hB : Below w.heap.size w (w.alloc (.cells #[.int .i64 l, .int .u16 t] 24)) := (Below.refl _ _).alloc (Nat.le_refl _) _
  have hz : (s.size : Int) ≤ 100 := by omega
  have hsame : sameB (hexI (byteN s 0)) (setV s 4) (hexI (byteN s 0)) (setV s 4) = true := by simp [sameB]
  have HG := Lib.hid g
  have HR := Lib.hid r
  have hlt : sameB l t l t = true := by simp [sameB]
  have HT := Lib.hid (text_good (textOut l t) (rightB_iff.1 r).1 (rightB_iff.1 r).2 ⟨ht0, ht1⟩ (textOut_yes _ r).symm)
  clear g r
  go_enter Try.func4, Try.ntmps4
  go_wp2_with fail
  refine (awake_is _).mono ?_
  rintro e w1 ⟨rfl, b⟩
  have ca0 : w1.cell? ⟨w.heap.size, 0, none⟩ = some (.int .i64 l) := cell_later b (by simp [go_sem])
  have ca1 : w1.cell? ⟨w.heap.size, 1, none⟩ = some (.int .u16 t) := cell_later b (by simp [go_sem])
  replace hB := below_step hB b
  clear b
  go_wp2_with fail
  refine (parse_good _ _ _ HG.out rfl rfl _).mono ?_
  rintro e w2 ⟨rfl, b⟩
  replace ca0 := cell_alloc (o := .cells #[.int .i64 (hexI (byteN s 0)), .int .u16 (setV s 4)] 24) (cell_later b ca0)
  replace ca1 := cell_alloc (o := .cells #[.int .i64 (hexI (byteN s 0)), .int .u16 (setV s 4)] 24) (cell_later b ca1)
  replace hB := below_step hB b
  clear b
  have cb0 : (w2.alloc (.cells #[.int .i64 (hexI (byteN s 0)), .int .u16 (setV s 4)] 24)).cell? ⟨w2.heap.size, 0, none⟩ = some (.int .i64 (hexI (byteN s 0))) := by simp [go_sem]
  have cb1 : (w2.alloc (.cells #[.int .i64 (hexI (byteN s 0)), .int .u16 (setV s 4)] 24)).cell? ⟨w2.heap.size, 1, none⟩ = some (.int .u16 (setV s 4)) := by simp [go_sem]
  replace hB := hB.alloc hB.size (.cells #[.int .i64 (hexI (byteN s 0)), .int .u16 (setV s 4)] 24)
  go_wp2_with fail
  refine (refparse_good _ HG.out _).mono ?_
  rintro e w3 ⟨rfl, b⟩
  replace ca0 := cell_alloc (o := .cells #[.int .i64 (hexI (byteN s 0)), .int .u16 (setV s 4)] 24) (cell_later b ca0)
  replace ca1 := cell_alloc (o := .cells #[.int .i64 (hexI (byteN s 0)), .int .u16 (setV s 4)] 24) (cell_later b ca1)
  replace cb0 := cell_alloc (o := .cells #[.int .i64 (hexI (byteN s 0)), .int .u16 (setV s 4)] 24) (cell_later b cb0)
  replace cb1 := cell_alloc (o := .cells #[.int .i64 (hexI (byteN s 0)), .int .u16 (setV s 4)] 24) (cell_later b cb1)
  replace hB := below_step hB b
  clear b
  replace hB := hB.alloc hB.size (.cells #[.int .i64 (hexI (byteN s 0)), .int .u16 (setV s 4)] 24)
  go_wp2_with fail
  refine (text_any _ _ ht0 ht1 _).mono ?_
  rintro e w4 ⟨rfl, b⟩
  replace ca0 := cell_later b ca0
  replace ca1 := cell_later b ca1
  replace hB := below_step hB b
  clear b cb0 cb1
  go_wp2_with fail
  refine (parse_good _ l t HT.out.1 HT.out.2.1 HT.out.2.2 _).mono ?_
  rintro e w5 ⟨rfl, b⟩
  replace ca0 := cell_alloc (o := .cells #[.int .i64 l, .int .u16 t] 24) (cell_later b ca0)
  replace ca1 := cell_alloc (o := .cells #[.int .i64 l, .int .u16 t] 24) (cell_later b ca1)
  replace hB := below_step hB b
  clear b
  have cc0 : (w5.alloc (.cells #[.int .i64 l, .int .u16 t] 24)).cell? ⟨w5.heap.size, 0, none⟩ = some (.int .i64 l) := by simp [go_sem]
  have cc1 : (w5.alloc (.cells #[.int .i64 l, .int .u16 t] 24)).cell? ⟨w5.heap.size, 1, none⟩ = some (.int .u16 t) := by simp [go_sem]
  replace hB := hB.alloc hB.size (.cells #[.int .i64 l, .int .u16 t] 24)
  go_wp2_with fail
  refine (refright_is _ _ _ HR.out _).mono ?_
  rintro e w6 ⟨rfl, b⟩
  replace ca0 := cell_later b ca0
  replace ca1 := cell_later b ca1
  replace cc0 := cell_later b cc0
  replace cc1 := cell_later b cc1
  replace hB := below_step hB b
  clear b
  go_wp2_with fail
  refine (refright_is _ _ _ HR.out _).mono ?_
  rintro e w7 ⟨rfl, b⟩
  replace ca0 := cell_later b ca0
  replace ca1 := cell_later b ca1
  replace cc0 := cell_later b cc0
  replace cc1 := cell_later b cc1
  replace hB := below_step hB b
  clear b
  go_wp2_with fail
  go_ret
  exact ⟨rfl, hB⟩

set_option maxHeartbeats 2000000 in
set_option maxRecDepth 100000 in
theorem labelReads_good_not (s : ByteArray) (l t : Int) (w : World) (hl : s.size ≤ 100) (g : GoodText s) (r : rightB l = false) (ht0 : 0 ≤ t) (ht1 : t < 65536) :
    Calls Try.prog 4 #[.string s, .agg #[.int .i64 l, .int .u16 t]] w fun e w' => e = .returned (.bool true) ∧ Below w.heap.size w w' := by
  have hB : Below w.heap.size w (w.alloc (.cells #[.int .i64 l, .int .u16 t] 24)) := (Below.refl _ _).alloc (Nat.le_refl _) _
  have hz : (s.size : Int) ≤ 100 := by omega
  have hsame : sameB (hexI (byteN s 0)) (setV s 4) (hexI (byteN s 0)) (setV s 4) = true := by simp [sameB]
  have HG := Lib.hid g
  have HR := Lib.hid r
  have HT := Lib.hid (show ¬ GoodText (textOut l t) by rw [textOut_no _ r]; exact fun g => absurd g.1 (by decide))
  clear g r
  go_enter Try.func4, Try.ntmps4
  go_wp2_with fail
  refine (awake_is _).mono ?_
  rintro e w1 ⟨rfl, b⟩
  have ca0 : w1.cell? ⟨w.heap.size, 0, none⟩ = some (.int .i64 l) := cell_later b (by simp [go_sem])
  have ca1 : w1.cell? ⟨w.heap.size, 1, none⟩ = some (.int .u16 t) := cell_later b (by simp [go_sem])
  replace hB := below_step hB b
  clear b
  go_wp2_with fail
  refine (parse_good _ _ _ HG.out rfl rfl _).mono ?_
  rintro e w2 ⟨rfl, b⟩
  replace ca0 := cell_alloc (o := .cells #[.int .i64 (hexI (byteN s 0)), .int .u16 (setV s 4)] 24) (cell_later b ca0)
  replace ca1 := cell_alloc (o := .cells #[.int .i64 (hexI (byteN s 0)), .int .u16 (setV s 4)] 24) (cell_later b ca1)
  replace hB := below_step hB b
  clear b
  have cb0 : (w2.alloc (.cells #[.int .i64 (hexI (byteN s 0)), .int .u16 (setV s 4)] 24)).cell? ⟨w2.heap.size, 0, none⟩ = some (.int .i64 (hexI (byteN s 0))) := by simp [go_sem]
  have cb1 : (w2.alloc (.cells #[.int .i64 (hexI (byteN s 0)), .int .u16 (setV s 4)] 24)).cell? ⟨w2.heap.size, 1, none⟩ = some (.int .u16 (setV s 4)) := by simp [go_sem]
  replace hB := hB.alloc hB.size (.cells #[.int .i64 (hexI (byteN s 0)), .int .u16 (setV s 4)] 24)
  go_wp2_with fail
  refine (refparse_good _ HG.out _).mono ?_
  rintro e w3 ⟨rfl, b⟩
  replace ca0 := cell_alloc (o := .cells #[.int .i64 (hexI (byteN s 0)), .int .u16 (setV s 4)] 24) (cell_later b ca0)
  replace ca1 := cell_alloc (o := .cells #[.int .i64 (hexI (byteN s 0)), .int .u16 (setV s 4)] 24) (cell_later b ca1)
  replace cb0 := cell_alloc (o := .cells #[.int .i64 (hexI (byteN s 0)), .int .u16 (setV s 4)] 24) (cell_later b cb0)
  replace cb1 := cell_alloc (o := .cells #[.int .i64 (hexI (byteN s 0)), .int .u16 (setV s 4)] 24) (cell_later b cb1)
  replace hB := below_step hB b
  clear b
  replace hB := hB.alloc hB.size (.cells #[.int .i64 (hexI (byteN s 0)), .int .u16 (setV s 4)] 24)
  go_wp2_with fail
  refine (text_any _ _ ht0 ht1 _).mono ?_
  rintro e w4 ⟨rfl, b⟩
  replace ca0 := cell_later b ca0
  replace ca1 := cell_later b ca1
  replace hB := below_step hB b
  clear b cb0 cb1
  go_wp2_with fail
  refine (parse_bad _ HT.out _).mono ?_
  rintro e w5 ⟨rfl, b⟩
  replace ca0 := cell_alloc (o := .cells #[.int .i64 0, .int .u16 0] 24) (cell_later b ca0)
  replace ca1 := cell_alloc (o := .cells #[.int .i64 0, .int .u16 0] 24) (cell_later b ca1)
  replace hB := below_step hB b
  clear b
  have cc0 : (w5.alloc (.cells #[.int .i64 0, .int .u16 0] 24)).cell? ⟨w5.heap.size, 0, none⟩ = some (.int .i64 0) := by simp [go_sem]
  have cc1 : (w5.alloc (.cells #[.int .i64 0, .int .u16 0] 24)).cell? ⟨w5.heap.size, 1, none⟩ = some (.int .u16 0) := by simp [go_sem]
  replace hB := hB.alloc hB.size (.cells #[.int .i64 0, .int .u16 0] 24)
  go_wp2_with fail
  refine (refright_is _ _ _ HR.out _).mono ?_
  rintro e w6 ⟨rfl, b⟩
  replace ca0 := cell_later b ca0
  replace ca1 := cell_later b ca1
  replace cc0 := cell_later b cc0
  replace cc1 := cell_later b cc1
  replace hB := below_step hB b
  clear b
  go_wp2_with fail
  go_ret
  exact ⟨rfl, hB⟩

set_option maxHeartbeats 2000000 in
set_option maxRecDepth 100000 in
theorem labelReads_bad_right (s : ByteArray) (l t : Int) (w : World) (hl : s.size ≤ 100) (g : ¬ GoodText s) (r : rightB l = true) (ht0 : 0 ≤ t) (ht1 : t < 65536) :
    Calls Try.prog 4 #[.string s, .agg #[.int .i64 l, .int .u16 t]] w fun e w' => e = .returned (.bool true) ∧ Below w.heap.size w w' := by
  have hB : Below w.heap.size w (w.alloc (.cells #[.int .i64 l, .int .u16 t] 24)) := (Below.refl _ _).alloc (Nat.le_refl _) _
  have hz : (s.size : Int) ≤ 100 := by omega
  have hsame : sameB 0 0 0 0 = true := by simp [sameB]
  have HG := Lib.hid g
  have HR := Lib.hid r
  have hlt : sameB l t l t = true := by simp [sameB]
  have HT := Lib.hid (text_good (textOut l t) (rightB_iff.1 r).1 (rightB_iff.1 r).2 ⟨ht0, ht1⟩ (textOut_yes _ r).symm)
  clear g r
  go_enter Try.func4, Try.ntmps4
  go_wp2_with fail
  refine (awake_is _).mono ?_
  rintro e w1 ⟨rfl, b⟩
  have ca0 : w1.cell? ⟨w.heap.size, 0, none⟩ = some (.int .i64 l) := cell_later b (by simp [go_sem])
  have ca1 : w1.cell? ⟨w.heap.size, 1, none⟩ = some (.int .u16 t) := cell_later b (by simp [go_sem])
  replace hB := below_step hB b
  clear b
  go_wp2_with fail
  refine (parse_bad _ HG.out _).mono ?_
  rintro e w2 ⟨rfl, b⟩
  replace ca0 := cell_alloc (o := .cells #[.int .i64 0, .int .u16 0] 24) (cell_later b ca0)
  replace ca1 := cell_alloc (o := .cells #[.int .i64 0, .int .u16 0] 24) (cell_later b ca1)
  replace hB := below_step hB b
  clear b
  have cb0 : (w2.alloc (.cells #[.int .i64 0, .int .u16 0] 24)).cell? ⟨w2.heap.size, 0, none⟩ = some (.int .i64 0) := by simp [go_sem]
  have cb1 : (w2.alloc (.cells #[.int .i64 0, .int .u16 0] 24)).cell? ⟨w2.heap.size, 1, none⟩ = some (.int .u16 0) := by simp [go_sem]
  replace hB := hB.alloc hB.size (.cells #[.int .i64 0, .int .u16 0] 24)
  go_wp2_with fail
  refine (refparse_bad _ HG.out _).mono ?_
  rintro e w3 ⟨rfl, b⟩
  replace ca0 := cell_alloc (o := .cells #[.int .i64 0, .int .u16 0] 24) (cell_later b ca0)
  replace ca1 := cell_alloc (o := .cells #[.int .i64 0, .int .u16 0] 24) (cell_later b ca1)
  replace cb0 := cell_alloc (o := .cells #[.int .i64 0, .int .u16 0] 24) (cell_later b cb0)
  replace cb1 := cell_alloc (o := .cells #[.int .i64 0, .int .u16 0] 24) (cell_later b cb1)
  replace hB := below_step hB b
  clear b
  replace hB := hB.alloc hB.size (.cells #[.int .i64 0, .int .u16 0] 24)
  go_wp2_with fail
  refine (text_any _ _ ht0 ht1 _).mono ?_
  rintro e w4 ⟨rfl, b⟩
  replace ca0 := cell_later b ca0
  replace ca1 := cell_later b ca1
  replace hB := below_step hB b
  clear b cb0 cb1
  go_wp2_with fail
  refine (parse_good _ l t HT.out.1 HT.out.2.1 HT.out.2.2 _).mono ?_
  rintro e w5 ⟨rfl, b⟩
  replace ca0 := cell_alloc (o := .cells #[.int .i64 l, .int .u16 t] 24) (cell_later b ca0)
  replace ca1 := cell_alloc (o := .cells #[.int .i64 l, .int .u16 t] 24) (cell_later b ca1)
  replace hB := below_step hB b
  clear b
  have cc0 : (w5.alloc (.cells #[.int .i64 l, .int .u16 t] 24)).cell? ⟨w5.heap.size, 0, none⟩ = some (.int .i64 l) := by simp [go_sem]
  have cc1 : (w5.alloc (.cells #[.int .i64 l, .int .u16 t] 24)).cell? ⟨w5.heap.size, 1, none⟩ = some (.int .u16 t) := by simp [go_sem]
  replace hB := hB.alloc hB.size (.cells #[.int .i64 l, .int .u16 t] 24)
  go_wp2_with fail
  refine (refright_is _ _ _ HR.out _).mono ?_
  rintro e w6 ⟨rfl, b⟩
  replace ca0 := cell_later b ca0
  replace ca1 := cell_later b ca1
  replace cc0 := cell_later b cc0
  replace cc1 := cell_later b cc1
  replace hB := below_step hB b
  clear b
  go_wp2_with fail
  refine (refright_is _ _ _ HR.out _).mono ?_
  rintro e w7 ⟨rfl, b⟩
  replace ca0 := cell_later b ca0
  replace ca1 := cell_later b ca1
  replace cc0 := cell_later b cc0
  replace cc1 := cell_later b cc1
  replace hB := below_step hB b
  clear b
  go_wp2_with fail
  go_ret
  exact ⟨rfl, hB⟩

set_option maxHeartbeats 2000000 in
set_option maxRecDepth 100000 in
theorem labelReads_bad_not (s : ByteArray) (l t : Int) (w : World) (hl : s.size ≤ 100) (g : ¬ GoodText s) (r : rightB l = false) (ht0 : 0 ≤ t) (ht1 : t < 65536) :
    Calls Try.prog 4 #[.string s, .agg #[.int .i64 l, .int .u16 t]] w fun e w' => e = .returned (.bool true) ∧ Below w.heap.size w w' := by
  have hB : Below w.heap.size w (w.alloc (.cells #[.int .i64 l, .int .u16 t] 24)) := (Below.refl _ _).alloc (Nat.le_refl _) _
  have hz : (s.size : Int) ≤ 100 := by omega
  have hsame : sameB 0 0 0 0 = true := by simp [sameB]
  have HG := Lib.hid g
  have HR := Lib.hid r
  have HT := Lib.hid (show ¬ GoodText (textOut l t) by rw [textOut_no _ r]; exact fun g => absurd g.1 (by decide))
  clear g r
  go_enter Try.func4, Try.ntmps4
  go_wp2_with fail
  refine (awake_is _).mono ?_
  rintro e w1 ⟨rfl, b⟩
  have ca0 : w1.cell? ⟨w.heap.size, 0, none⟩ = some (.int .i64 l) := cell_later b (by simp [go_sem])
  have ca1 : w1.cell? ⟨w.heap.size, 1, none⟩ = some (.int .u16 t) := cell_later b (by simp [go_sem])
  replace hB := below_step hB b
  clear b
  go_wp2_with fail
  refine (parse_bad _ HG.out _).mono ?_
  rintro e w2 ⟨rfl, b⟩
  replace ca0 := cell_alloc (o := .cells #[.int .i64 0, .int .u16 0] 24) (cell_later b ca0)
  replace ca1 := cell_alloc (o := .cells #[.int .i64 0, .int .u16 0] 24) (cell_later b ca1)
  replace hB := below_step hB b
  clear b
  have cb0 : (w2.alloc (.cells #[.int .i64 0, .int .u16 0] 24)).cell? ⟨w2.heap.size, 0, none⟩ = some (.int .i64 0) := by simp [go_sem]
  have cb1 : (w2.alloc (.cells #[.int .i64 0, .int .u16 0] 24)).cell? ⟨w2.heap.size, 1, none⟩ = some (.int .u16 0) := by simp [go_sem]
  replace hB := hB.alloc hB.size (.cells #[.int .i64 0, .int .u16 0] 24)
  go_wp2_with fail
  refine (refparse_bad _ HG.out _).mono ?_
  rintro e w3 ⟨rfl, b⟩
  replace ca0 := cell_alloc (o := .cells #[.int .i64 0, .int .u16 0] 24) (cell_later b ca0)
  replace ca1 := cell_alloc (o := .cells #[.int .i64 0, .int .u16 0] 24) (cell_later b ca1)
  replace cb0 := cell_alloc (o := .cells #[.int .i64 0, .int .u16 0] 24) (cell_later b cb0)
  replace cb1 := cell_alloc (o := .cells #[.int .i64 0, .int .u16 0] 24) (cell_later b cb1)
  replace hB := below_step hB b
  clear b
  replace hB := hB.alloc hB.size (.cells #[.int .i64 0, .int .u16 0] 24)
  go_wp2_with fail
  refine (text_any _ _ ht0 ht1 _).mono ?_
  rintro e w4 ⟨rfl, b⟩
  replace ca0 := cell_later b ca0
  replace ca1 := cell_later b ca1
  replace hB := below_step hB b
  clear b cb0 cb1
  go_wp2_with fail
  refine (parse_bad _ HT.out _).mono ?_
  rintro e w5 ⟨rfl, b⟩
  replace ca0 := cell_alloc (o := .cells #[.int .i64 0, .int .u16 0] 24) (cell_later b ca0)
  replace ca1 := cell_alloc (o := .cells #[.int .i64 0, .int .u16 0] 24) (cell_later b ca1)
  replace hB := below_step hB b
  clear b
  have cc0 : (w5.alloc (.cells #[.int .i64 0, .int .u16 0] 24)).cell? ⟨w5.heap.size, 0, none⟩ = some (.int .i64 0) := by simp [go_sem]
  have cc1 : (w5.alloc (.cells #[.int .i64 0, .int .u16 0] 24)).cell? ⟨w5.heap.size, 1, none⟩ = some (.int .u16 0) := by simp [go_sem]
  replace hB := hB.alloc hB.size (.cells #[.int .i64 0, .int .u16 0] 24)
  go_wp2_with fail
  refine (refright_is _ _ _ HR.out _).mono ?_
  rintro e w6 ⟨rfl, b⟩
  replace ca0 := cell_later b ca0
  replace ca1 := cell_later b ca1
  replace cc0 := cell_later b cc0
  replace cc1 := cell_later b cc1
  replace hB := below_step hB b
  clear b
  go_wp2_with fail
  go_ret
  exact ⟨rfl, hB⟩

theorem labelReads_walk (s : ByteArray) (l t : Int) (_w0 : s.size ≤ maxLen) (_w1 : (Lit.int .i64 l).wf = true) (w2 : (Lit.int .u16 t).wf = true) (w : World) :
    Calls Try.prog 4 #[.string s, .agg #[.int .i64 l, .int .u16 t]] w fun e w' => e = .returned (.bool true) ∧ Below w.heap.size w w' := by
  have ht := bounds_u16 w2
  by_cases hl : 100 < s.size
  · exact labelReads_long s l t w hl
  · by_cases g : GoodText s
    · cases r : rightB l
      · exact labelReads_good_not s l t w (by omega) g r ht.1 (by omega)
      · exact labelReads_good_right s l t w (by omega) g r ht.1 (by omega)
    · cases r : rightB l
      · exact labelReads_bad_not s l t w (by omega) g r ht.1 (by omega)
      · exact labelReads_bad_right s l t w (by omega) g r ht.1 (by omega)

end Go.Proofs.Ytohonaifcpcnbaa
