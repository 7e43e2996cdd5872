/-
  What label.Text answers: a label's text; the empty one, if the label may not be. Condition: Set is a number from 0 to 65535.
-/
import Derived.Test.YtohonaifcpcnbaaLabelA
import Derived.Laws.BytesArg
namespace Go.Proofs.Ytohonaifcpcnbaa
open Go.RowKit

theorem info_u8 : (Try.prog.info? 5).map (fun i => (i.zero, i.size, i.bytes)) = some (some (.int .u8 0), 1, 1) := by kernel_rfl

theorem hex_at (d : Int) (h : d.toNat < (⟨#[48, 49, 50, 51, 52, 53, 54, 55, 56, 57, 97, 98, 99, 100, 101, 102]⟩ : ByteArray).size) : (((⟨#[48, 49, 50, 51, 52, 53, 54, 55, 56, 57, 97, 98, 99, 100, 101, 102]⟩ : ByteArray)[d.toNat]'h).toNat : Int) = hexC d := by
  unfold hexC sixteenL
  have h' : d.toNat < 16 := h
  rw [List.getD, List.getElem?_eq_getElem (by simpa using h')]
  rfl

def TextRel (w : World) (l s : Int) (v i : Value) (wr : World) : Prop :=
  ∃ (k : Nat) (y : Int), k ≤ 4 ∧ i = .int .i64 y ∧ y = 12 - 4 * (k : Int) ∧ wr.ownsRow (w.heap.size + 1) 5 1 v (2 + k) (((textN l s).take (2 + k)).map (Value.int .u8)) ∧ wr.cell? ⟨w.heap.size, 1, none⟩ = some (.int .u16 s) ∧ Below w.heap.size w wr ∧ w.heap.size + 1 ≤ wr.heap.size

theorem text_step {w wr w2 : World} {l s y d : Int} {v v' : Value} {k : Nat} {o : Obj} (hlt : k < 4) (hy : y = 12 - 4 * (k : Int)) (hd : d = digit s k)
    (hown : wr.ownsRow (w.heap.size + 1) 5 1 v (2 + k) (((textN l s).take (2 + k)).map (Value.int .u8))) (hcell : wr.cell? ⟨w.heap.size, 1, none⟩ = some (.int .u16 s)) (hbel : Below w.heap.size w wr) (hsz : w.heap.size + 1 ≤ wr.heap.size)
    (hown' : w2.ownsRow (w.heap.size + 1) 5 1 v' (2 + k + 1) (((textN l s).take (2 + k)).map (Value.int .u8) ++ [.int .u8 (hexC d)])) (hgrow : (wr.alloc o).grownBy w2 v.ownBlock) : TextRel w l s v' (.int .i64 (y - 4)) w2 := by
  have hne : some w.heap.size ≠ v.ownBlock := fun e => by have := (hown.lt _ e.symm).1; omega
  refine ⟨k + 1, y - 4, by omega, rfl, by omega, ?_, ?_, ?_, ?_⟩
  · rw [← text_snoc l s k hlt, List.map_append, ← hd]
    exact hown'
  · rw [World.cell?_of_block (w := wr.alloc o) (hgrow.block _ (by simp; omega) hne), World.cell?_alloc_past _ _ _ (by omega)]
    exact hcell
  · exact (hbel.alloc (by omega) o).grown hgrow (by simp; omega) (fun b hb => by have := (hown.lt b hb).1; omega)
  · have := hgrow.size
    simp at this
    omega

/-- An owned row of bytes, made a string. -/
theorem row_string {w : World} {base : Nat} {v : Value} {n : Nat} {xs : List Int} (h : w.ownsRow base 5 1 v n (xs.map (Value.int .u8))) (hn : 0 < n) (w' : World) (hw : ∀ a, w'.cell? a = w.cell? a) :
    (convert 37 9 v).run Try.prog w' = .ok (.string (strOfNums xs)) w' := by
  have hlen : xs.length = n := by have := h.1; simpa using this
  rcases h.2 with ⟨_, h0⟩ | ⟨g, cap, cur, rfl, hg, hcur, hnc, hcm, hcs, htake⟩
  · omega
  · refine run_convert_bytes_arg w' 37 5 Try.underlying37 Try.underlying5 g 0 n cap xs hlen (fun i hi => ?_) 9 Try.underlying9
    rw [Nat.zero_add, hw, h.cellAt i (by omega)]
    have hi' : i < xs.length := by omega
    simp [List.getElem?_eq_getElem hi', List.getD]

set_option maxHeartbeats 1000000 in
theorem text_yes (l s : Int) (h0 : 0 ≤ l) (h7 : l ≤ 7) (hs0 : 0 ≤ s) (hs1 : s < 65536) (w : World) :
    Calls Try.prog 22 #[.agg #[.int .i64 l, .int .u16 s]] w fun e w' => e = .returned (.string (strOfNums (textN l s))) ∧ Below w.heap.size w w' := by
  obtain ⟨i0, hi, hz0, hz1, hz2⟩ := info_parts info_u8
  have HI := Lib.hid hi
  have HZ0 := Lib.hid hz0
  have HZ1 := Lib.hid hz1
  have HZ2 := Lib.hid hz2
  clear hi hz0 hz1 hz2
  have HR := Lib.hid (show rightB l = true by unfold rightB; simp [h0, h7])
  go_enter Try.func22, Try.ntmps22
  go_wp2_with (go_at_call 11; refine (right_is _ _ true HR.out _).mono ?_; rintro e w1 ⟨rfl, hb⟩; obtain ⟨hc, hf⟩ := bcell hb; have hz : w.heap.size + 1 ≤ w1.heap.size := (by have := hb.size; simpa using this))
  go_loopw [3, 4] (fun v i wr => TextRel w l s v i wr) (fun _ i _ => (intOf i + 4).toNat)
  case atStart =>
    refine ⟨0, 12, by omega, rfl, by omega, ?_, ?_, ?_, ?_⟩
    · rw [hex_at]
      exact World.ownsRow_lit w1 #[.int .u8 (hexC l), .int .u8 58] 2 hz (by unfold maxLen; omega) rfl
    · rw [World.cell?_alloc_past _ _ _ (by omega), hc _ _ (by simp)]
      simp [go_sem]
    · exact (((Below.refl _ _).alloc (Nat.le_refl _) _).trans (hb.mono (by simp))).alloc (by omega) _
    · simp; omega
  case round =>
    obtain ⟨k, y, hk, rfl, hy, hown, hcell, hbel, hsz⟩ := hrel
    by_cases hlt : k < 4
    · have hy0 : 0 ≤ y := by omega
      have hy1 : y ≤ 12 := by omega
      have hq0 : 0 ≤ s / 2 ^ y.toNat := Int.ediv_nonneg hs0 (Int.le_of_lt (Int.pow_pos (by omega)))
      have hq1 : s / 2 ^ y.toNat < 65536 := Int.lt_of_le_of_lt (Int.ediv_le_self _ hs0) hs1
      have HD := Lib.hid (show bits .and .u16 (s / 2 ^ y.toNat) 15 = digit s k by rw [u16_and15 _ hq0 hq1, hy]; rfl)
      have hd0 : 0 ≤ bits .and .u16 (s / 2 ^ y.toNat) 15 := by rw [u16_and15 _ hq0 hq1]; omega
      have hd1 : bits .and .u16 (s / 2 ^ y.toNat) 15 < 16 := by rw [u16_and15 _ hq0 hq1]; omega
      have HY := Lib.hid hy
      clear hy hq0 hq1
      clear hc hf hb hz hs0 hs1
      go_wp2_with (at_builtin; go_must (refine wpList_append_own _ rfl _ _ 37 rfl (w.heap.size + 1) 5 i0 (.int .u8 0) 1 1 Try.underlying37 HI.out HZ0.out HZ1.out HZ2.out rfl (by decide) _ _ _ rfl (hown.alloc _) ⟨wr.heap.size, 0, none⟩ 1 1 [.int .u8 (hexC (bits .and .u16 (s / 2 ^ y.toNat) 15))] rfl rfl ?c1 ?c2 ?c3 ?c4 ?c5 ?_))
      case c1 => rw [hex_at]; exact cell_one_new _ _ _
      case c2 => simp [Value.oneCell']
      case c3 => unfold maxLen; omega
      case c4 => omega
      case c5 => simp; omega
      intro v' w2 hown' hgrow _
      have HOWN := Lib.hid hown'
      have HGROW := Lib.hid hgrow
      have HO := Lib.hid hown
      clear hown' hgrow hown
      go_wp2_with fail
      go_roundw
      case rel => exact text_step hlt HY.out HD.out HO.out hcell hbel hsz (by rw [List.map_take]; exact HOWN.out) HGROW.out
      case measure => simp [intOf]; omega
    · have hy0 : y < 0 := by omega
      obtain rfl : k = 4 := by omega
      have hcv := row_string hown (by omega) wr (fun _ => rfl)
      have he : strOfNums (List.take (2 + 4) (textN l s)) = strOfNums (textN l s) := rfl
      rw [he] at hcv
      clear he hown hc hf hb hz hy
      go_wp2_with fail
      go_ret
      exact ⟨rfl, hbel⟩

set_option maxHeartbeats 400000 in
theorem text_no (l s : Int) (h : rightB l = false) (w : World) :
    Calls Try.prog 22 #[.agg #[.int .i64 l, .int .u16 s]] w fun e w' => e = .returned (.string ⟨#[]⟩) ∧ Below w.heap.size w w' := by
  have HR := Lib.hid h
  clear h
  go_enter Try.func22, Try.ntmps22
  go_wp2_with (go_at_call 11; refine (right_is _ _ false HR.out _).mono ?_; rintro e w1 ⟨rfl, hb⟩)
  go_ret
  exact ⟨rfl, ((Below.refl _ _).alloc (Nat.le_refl _) _).trans (hb.mono (by simp))⟩

theorem text_any (l s : Int) (hs0 : 0 ≤ s) (hs1 : s < 65536) (w : World) :
    Calls Try.prog 22 #[.agg #[.int .i64 l, .int .u16 s]] w fun e w' => e = .returned (.string (textOut l s)) ∧ Below w.heap.size w w' := by
  cases h : rightB l
  · rw [textOut_no s h]; exact text_no l s h w
  · have := rightB_iff.1 h
    rw [textOut_yes s h]; exact text_yes l s this.1 this.2 hs0 hs1 w

end Go.Proofs.Ytohonaifcpcnbaa
