/-
  What the document's own Text answers (package lockageref01), of a label that may be.
-/
import Derived.Test.YtohonaifcpcnbaaLabelD
namespace Go.Proofs.Ytohonaifcpcnbaa
open Go.RowKit

theorem conv_one (w : World) (x : Int) (g : Nat) (hg : g = w.heap.size) : (convert 37 9 (.slice (some ⟨g, 0, none⟩) 1 1)).run Try.prog (w.alloc (.cells #[.int .u8 x] 5)) = .ok (.string (strOfNums [x])) (w.alloc (.cells #[.int .u8 x] 5)) := by
  subst hg
  exact row_string (base := 0) (xs := [x]) (World.ownsRow_lit w #[.int .u8 x] 1 (by omega) (by unfold maxLen; omega) rfl) (by omega) _ (fun _ => rfl)

theorem level_char (l : Int) (h0 : 0 ≤ l) (h7 : l ≤ 7) : IntKind.u8.wrap (48 + l) = hexC l := by
  have : l = 0 ∨ l = 1 ∨ l = 2 ∨ l = 3 ∨ l = 4 ∨ l = 5 ∨ l = 6 ∨ l = 7 := by omega
  rcases this with rfl | rfl | rfl | rfl | rfl | rfl | rfl | rfl <;> decide

theorem hex_cut (d : Int) (h0 : 0 ≤ d) (h1 : d < 16) : (⟨#[48, 49, 50, 51, 52, 53, 54, 55, 56, 57, 97, 98, 99, 100, 101, 102]⟩ : ByteArray).extract d.toNat (d + 1).toNat = strOfNums [hexC d] := by
  have : d = 0 ∨ d = 1 ∨ d = 2 ∨ d = 3 ∨ d = 4 ∨ d = 5 ∨ d = 6 ∨ d = 7 ∨ d = 8 ∨ d = 9 ∨ d = 10 ∨ d = 11 ∨ d = 12 ∨ d = 13 ∨ d = 14 ∨ d = 15 := by omega
  rcases this with rfl | rfl | rfl | rfl | rfl | rfl | rfl | rfl | rfl | rfl | rfl | rfl | rfl | rfl | rfl | rfl <;> decide
theorem str_append (xs ys : List Int) : strOfNums xs ++ strOfNums ys = strOfNums (xs ++ ys) := by
  apply ByteArray.ext
  simp [strOfNums]
theorem text_next {l s d : Int} (k : Nat) (hk : k < 4) (hd : d = digit s k) (h0 : 0 ≤ d) (h1 : d < 16) :
    strOfNums (List.take (2 + k) (textN l s)) ++ (⟨#[48, 49, 50, 51, 52, 53, 54, 55, 56, 57, 97, 98, 99, 100, 101, 102]⟩ : ByteArray).extract d.toNat (d + 1).toNat = strOfNums (List.take (2 + (k + 1)) (textN l s)) := by
  rw [hex_cut d h0 h1, str_append, ← text_snoc l s k hk, hd]

def RefTextRel (l s : Int) (v i : Value) : Prop := ∃ k : Nat, k ≤ 4 ∧ i = .int .i64 (3 - (k : Int)) ∧ v = .string (strOfNums ((textN l s).take (2 + k)))

set_option maxHeartbeats 1000000 in
theorem reftext (l s : Int) (h0 : 0 ≤ l) (h7 : l ≤ 7) (hs0 : 0 ≤ s) (hs1 : s < 65536) (w : World) :
    Calls Try.prog 9 #[.agg #[.int .i64 l, .int .u16 s]] w fun e w' => e = .returned (.string (strOfNums (textN l s))) ∧ Below w.heap.size w w' := by
  have hcv := fun (x : Int) => conv_one (w.alloc (.cells #[.int .i64 l, .int .u16 s] 24)) x (w.heap.size + 1) (by simp)
  have hch := level_char l h0 h7
  go_enter Try.func9, Try.ntmps9
  go_wp2_with fail
  go_loop [4, 5, 6] (fun v i _ => RefTextRel l s v i) (fun _ i _ => (intOf i + 1).toNat)
  case atStart => exact ⟨0, by omega, rfl, rfl⟩
  case round =>
    obtain ⟨k, hk, hi, hv⟩ := hrel
    subst hv
    subst hi
    by_cases hlt : k < 4
    · have : k = 0 ∨ k = 1 ∨ k = 2 ∨ k = 3 := by omega
      rcases this with rfl | rfl | rfl | rfl
      · have hz : (strOfNums (List.take 2 (textN l s))).size ≤ 6 := by rw [strOfNums_size]; simp [textN]
        have HE := Lib.hid (text_next (l := l) (s := s) (d := s / 4096 % 16) 0 (by omega) (by simp [digit]) (by omega) (by omega))
        go_wp2_with fail
        go_round
        case rel => exact ⟨1, by omega, rfl, congrArg Value.string HE.out⟩
        case measure => simp [intOf]
      · have hz : (strOfNums (List.take 3 (textN l s))).size ≤ 6 := by rw [strOfNums_size]; simp [textN]
        have HE := Lib.hid (text_next (l := l) (s := s) (d := s / 256 % 16) 1 (by omega) (by simp [digit]) (by omega) (by omega))
        go_wp2_with fail
        go_round
        case rel => exact ⟨2, by omega, rfl, congrArg Value.string HE.out⟩
        case measure => simp [intOf]
      · have hz : (strOfNums (List.take 4 (textN l s))).size ≤ 6 := by rw [strOfNums_size]; simp [textN]
        have HE := Lib.hid (text_next (l := l) (s := s) (d := s / 16 % 16) 2 (by omega) (by simp [digit]) (by omega) (by omega))
        go_wp2_with fail
        go_round
        case rel => exact ⟨3, by omega, rfl, congrArg Value.string HE.out⟩
        case measure => simp [intOf]
      · have hz : (strOfNums (List.take 5 (textN l s))).size ≤ 6 := by rw [strOfNums_size]; simp [textN]
        have HE := Lib.hid (text_next (l := l) (s := s) (d := s % 16) 3 (by omega) (by simp [digit]) (by omega) (by omega))
        go_wp2_with fail
        go_round
        case rel => exact ⟨4, by omega, rfl, congrArg Value.string HE.out⟩
        case measure => simp [intOf]
    · obtain rfl : k = 4 := by omega
      go_wp2_with fail
      go_ret
      exact ⟨rfl, ((Below.refl _ _).alloc (Nat.le_refl _) _).alloc (by simp) _⟩

end Go.Proofs.Ytohonaifcpcnbaa
