/-
  What the document's Int and Text (package lockageref06) answer. No conditions but a number's range, and a text's length.
-/
import Derived.Test.YthmjeibanofliaaDoorCodA
namespace Go.Proofs.YthmjeibanofliaaDoor
open Go.RowKit

theorem numX_neg {n : Int} (h : n < 0) : numX n = (⟨#[45]⟩ : ByteArray) ++ ofL (digN n.natAbs) ++ (⟨#[44]⟩ : ByteArray) := by
  apply bl_inj
  rw [bl_numX, bl_append, bl_append, bl_ofL]
  unfold numT
  rw [if_pos h]
  rfl
theorem numX_pos {n : Int} (h : ¬ n < 0) : numX n = ofL (digN n.natAbs) ++ (⟨#[44]⟩ : ByteArray) := by
  apply bl_inj
  rw [bl_numX, bl_append, bl_ofL]
  unfold numT
  rw [if_neg h]
  rfl
theorem numX_len {n : Int} (h0 : -9223372036854775808 ≤ n) (h1 : n ≤ 9223372036854775807) : 2 ≤ (numX n).size ∧ (numX n).size ≤ 21 := by
  have := headT_len h0 h1
  rw [← bl_len, bl_numX, numT_head, List.length_append, List.length_singleton]
  omega
set_option maxHeartbeats 1000000 in
set_option maxRecDepth 100000 in
theorem refnum_is (n : Int) (h0 : -9223372036854775808 ≤ n) (h1 : n ≤ 9223372036854775807) (w : World) : Calls Tryd.prog 6 #[.int .i64 n] w fun e w' => e = .returned (.string (numX n)) ∧ Below w.heap.size w w' := by
  have CN := Lib.hid (fun W : World => count_is n.natAbs (by omega) W)
  have HS := Lib.hid (digX_len (n := n.natAbs) (by omega))
  by_cases h : n < 0
  · have HE := Lib.hid (numX_neg h)
    have hab := Lib.hid (show (n.natAbs : Int) = -n by omega)
    go_enter Tryd.func6, Tryd.ntmps6
    go_wp2_with fail
    rw [show -(n + 1) + 1 = (n.natAbs : Int) by omega]
    refine (CN.out _).mono ?_
    rintro e w1 ⟨rfl, hb⟩
    have HB := Lib.hid hb
    clear hb
    have hsz := HS.out
    have hcat : ¬ 9223372036854775807 < 1 + (ofL (digN n.natAbs)).size := by omega
    have hcat2 : ¬ 9223372036854775807 < 1 + (ofL (digN n.natAbs)).size + 1 := by omega
    clear CN hab
    go_wp2_with fail
    go_ret
    exact ⟨by rw [HE.out]; rfl, HB.out⟩
  · have HE := Lib.hid (numX_pos h)
    have hab := Lib.hid (show (n.natAbs : Int) = n by omega)
    go_enter Tryd.func6, Tryd.ntmps6
    go_wp2_with fail
    rw [show Value.int .u64 n = .int .u64 (n.natAbs : Int) by rw [hab.out]]
    refine (CN.out _).mono ?_
    rintro e w1 ⟨rfl, hb⟩
    have HB := Lib.hid hb
    clear hb
    have hsz := HS.out
    have hcat : ¬ 9223372036854775807 < (ofL (digN n.natAbs)).size + 1 := by omega
    clear CN hab
    go_wp2_with fail
    go_ret
    exact ⟨by rw [HE.out]; rfl, HB.out⟩
end Go.Proofs.YthmjeibanofliaaDoor
