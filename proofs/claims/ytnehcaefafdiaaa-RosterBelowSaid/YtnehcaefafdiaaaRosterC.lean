/-
  What the closures of roster.fault answer, and slices.IndexFunc and ContainsFunc of each of them. No conditions but how the lists, and what is captured, lie in memory.
-/
import Derived.Test.YtnehcaefafdiaaaRosterB
import Derived.WalkKit
namespace Go.Proofs.Ytnehcaefafdiaaa
open Go.RowKit

set_option maxHeartbeats 400000 in
theorem wrongL_is (l s : Int) (w : World) :
    Calls Try.prog 36 #[.agg #[.int .i64 l, .int .u16 s]] w fun e w' => e = .returned (.bool (!rightB l)) ∧ Below w.heap.size w w' := by
  go_enter Try.func36, Try.ntmps36
  go_wp2_with (go_at_call 37; refine (right_is _ _ _ rfl _).mono ?_; rintro e w1 ⟨rfl, hb⟩)
  go_ret
  exact ⟨rfl, below_step ((Below.refl _ _).alloc (Nat.le_refl _) _) hb⟩

set_option maxHeartbeats 400000 in
theorem wrongA_is (p l s : Int) (B : Nat) (w : World) (hc : w.cell? ⟨B, 0, none⟩ = some (.func (.func 36) #[] #[])) :
    Calls Try.prog 38 #[.agg #[.int .i64 p, .int .i64 l, .int .u16 s], .pointer (some ⟨B, 0, none⟩)] w fun e w' => e = .returned (.bool (!rightB l)) ∧ Below w.heap.size w w' := by
  have hc' : (w.alloc (.cells #[.int .i64 p, .int .i64 l, .int .u16 s] 35)).cell? ⟨B, 0, none⟩ = some (.func (.func 36) #[] #[]) := cell_alloc hc
  clear hc
  go_enter Try.func38, Try.ntmps38
  go_wp2_with (go_at_call 36; refine (wrongL_is _ _ _).mono ?_; rintro e w1 ⟨rfl, hb⟩)
  go_ret
  exact ⟨rfl, below_step ((Below.refl _ _).alloc (Nat.le_refl _) _) hb⟩

set_option maxHeartbeats 400000 in
theorem wrongP_is (p l s : Int) (B : Nat) (A : Option Addr) (n c : Nat) (w : World) (hc : w.cell? ⟨B, 0, none⟩ = some (.slice A n c)) :
    Calls Try.prog 39 #[.agg #[.int .i64 p, .int .i64 l, .int .u16 s], .pointer (some ⟨B, 0, none⟩)] w fun e w' => e = .returned (.bool (!thereB p n)) ∧ Below w.heap.size w w' := by
  have hc' : (w.alloc (.cells #[.int .i64 p, .int .i64 l, .int .u16 s] 35)).cell? ⟨B, 0, none⟩ = some (.slice A n c) := cell_alloc hc
  clear hc
  go_enter Try.func39, Try.ntmps39
  go_wp2_with (go_at_call 29; refine (there_is _ _ _ rfl _).mono ?_; rintro e w1 ⟨rfl, rfl⟩)
  go_ret
  exact ⟨rfl, (Below.refl _ _).alloc (Nat.le_refl _) _⟩

set_option maxHeartbeats 400000 in
theorem idxL {A : Option Addr} {n c : Nat} {lv st : Nat → Int} {w : World} (h : LabsAt w A n lv st) (hn : n ≤ 64) :
    Calls Try.prog 43 #[.slice A n c, .func (.func 36) #[] #[]] w fun e w' => e = .returned (.int .i64 (firstN (fun i => !rightB (lv i)) n)) ∧ Below w.heap.size w w' := by
  have HL := Lib.hid h
  clear h
  go_enter Try.func43, Try.ntmps43
  go_wp2
  go_loopw [8] (fun i wr => ∃ k : Nat, k ≤ n ∧ i = .int .i64 k ∧ Hid (∀ j, j < k → (fun i => !rightB (lv i)) j = false) ∧ Below w.heap.size w wr) (fun i _ => n - (intOf i).toNat)
  case atStart => exact ⟨0, Nat.zero_le _, rfl, Lib.hid (fun _ h => absurd h (by omega)), Below.refl _ _⟩
  case round =>
    obtain ⟨k, hk, rfl, H, hB⟩ := hrel
    by_cases hlt : k < n
    · obtain ⟨ad, rfl, h0, h1⟩ := (HL.out.later hB).at_ hlt
      cases hs : (fun i => !rightB (lv i)) k
      · have HS := Lib.hid hs
        simp only [] at hs
        go_wp2_with (go_at_call 36; refine (wrongL_is _ _ _).mono ?_; rintro e w1 ⟨rfl, hb⟩; rw [hs])
        go_roundw
        case rel => exact ⟨k + 1, by omega, by go_num, Lib.hid (fun j hj => by by_cases e : j = k; (rw [e]; exact HS.out); exact H.out j (by omega)), below_step hB hb⟩
        case measure => simp [intOf]; omega
      · have HS := Lib.hid hs
        simp only [] at hs
        go_wp2_with (go_at_call 36; refine (wrongL_is _ _ _).mono ?_; rintro e w1 ⟨rfl, hb⟩; rw [hs])
        go_ret
        exact ⟨ret_int (firstN_hit (p := (fun i => !rightB (lv i))) HS.out H.out hlt).symm, below_step hB hb⟩
    · obtain rfl : k = n := by omega
      go_wp2
      go_ret
      exact ⟨ret_int (firstN_none (p := (fun i => !rightB (lv i))) H.out).symm, hB⟩

set_option maxHeartbeats 400000 in
theorem hasL {A : Option Addr} {n c : Nat} {lv st : Nat → Int} {w : World} (h : LabsAt w A n lv st) (hn : n ≤ 64) :
    Calls Try.prog 40 #[.slice A n c, .func (.func 36) #[] #[]] w fun e w' => e = .returned (.bool (anyN (fun i => !rightB (lv i)) n)) ∧ Below w.heap.size w w' := by
  have HL := Lib.hid h
  clear h
  go_enter Try.func40, Try.ntmps40
  go_wp2_with (go_at_call 43; refine (idxL HL.out hn).mono ?_; rintro e w1 ⟨rfl, hb⟩)
  go_ret
  exact ⟨rfl, hb⟩

set_option maxHeartbeats 400000 in
theorem idxA {A : Option Addr} {n c B : Nat} {pt al au : Nat → Int} {w : World} (h : PepsAt w A n pt al au) (hn : n ≤ 64) (hc : w.cell? ⟨B, 0, none⟩ = some (.func (.func 36) #[] #[])) :
    Calls Try.prog 44 #[.slice A n c, .func (.func 38) #[] #[.pointer (some ⟨B, 0, none⟩)]] w fun e w' => e = .returned (.int .i64 (firstN (fun i => !rightB (al i)) n)) ∧ Below w.heap.size w w' := by
  have HL := Lib.hid h
  clear h
  have HC := Lib.hid hc
  clear hc
  go_enter Try.func44, Try.ntmps44
  go_wp2
  go_loopw [8] (fun i wr => ∃ k : Nat, k ≤ n ∧ i = .int .i64 k ∧ Hid (∀ j, j < k → (fun i => !rightB (al i)) j = false) ∧ Below w.heap.size w wr) (fun i _ => n - (intOf i).toNat)
  case atStart => exact ⟨0, Nat.zero_le _, rfl, Lib.hid (fun _ h => absurd h (by omega)), Below.refl _ _⟩
  case round =>
    obtain ⟨k, hk, rfl, H, hB⟩ := hrel
    by_cases hlt : k < n
    · obtain ⟨ad, rfl, h0, h1, h2⟩ := (HL.out.later hB).at_ hlt
      cases hs : (fun i => !rightB (al i)) k
      · have HS := Lib.hid hs
        simp only [] at hs
        go_wp2_with (go_at_call 38; refine (wrongA_is _ _ _ _ _ (cell_later hB HC.out)).mono ?_; rintro e w1 ⟨rfl, hb⟩; rw [hs])
        go_roundw
        case rel => exact ⟨k + 1, by omega, by go_num, Lib.hid (fun j hj => by by_cases e : j = k; (rw [e]; exact HS.out); exact H.out j (by omega)), below_step hB hb⟩
        case measure => simp [intOf]; omega
      · have HS := Lib.hid hs
        simp only [] at hs
        go_wp2_with (go_at_call 38; refine (wrongA_is _ _ _ _ _ (cell_later hB HC.out)).mono ?_; rintro e w1 ⟨rfl, hb⟩; rw [hs])
        go_ret
        exact ⟨ret_int (firstN_hit (p := (fun i => !rightB (al i))) HS.out H.out hlt).symm, below_step hB hb⟩
    · obtain rfl : k = n := by omega
      go_wp2
      go_ret
      exact ⟨ret_int (firstN_none (p := (fun i => !rightB (al i))) H.out).symm, hB⟩

set_option maxHeartbeats 400000 in
theorem hasA {A : Option Addr} {n c B : Nat} {pt al au : Nat → Int} {w : World} (h : PepsAt w A n pt al au) (hn : n ≤ 64) (hc : w.cell? ⟨B, 0, none⟩ = some (.func (.func 36) #[] #[])) :
    Calls Try.prog 41 #[.slice A n c, .func (.func 38) #[] #[.pointer (some ⟨B, 0, none⟩)]] w fun e w' => e = .returned (.bool (anyN (fun i => !rightB (al i)) n)) ∧ Below w.heap.size w w' := by
  have HL := Lib.hid h
  clear h
  have HC := Lib.hid hc
  clear hc
  go_enter Try.func41, Try.ntmps41
  go_wp2_with (go_at_call 44; refine (idxA HL.out hn HC.out).mono ?_; rintro e w1 ⟨rfl, hb⟩)
  go_ret
  exact ⟨rfl, hb⟩

set_option maxHeartbeats 400000 in
theorem idxP {A A2 : Option Addr} {n c B n2 c2 : Nat} {pt al au : Nat → Int} {w : World} (h : PepsAt w A n pt al au) (hn : n ≤ 64) (hc : w.cell? ⟨B, 0, none⟩ = some (.slice A2 n2 c2)) :
    Calls Try.prog 44 #[.slice A n c, .func (.func 39) #[] #[.pointer (some ⟨B, 0, none⟩)]] w fun e w' => e = .returned (.int .i64 (firstN (fun i => !thereB (pt i) n2) n)) ∧ Below w.heap.size w w' := by
  have HL := Lib.hid h
  clear h
  have HC := Lib.hid hc
  clear hc
  go_enter Try.func44, Try.ntmps44
  go_wp2
  go_loopw [8] (fun i wr => ∃ k : Nat, k ≤ n ∧ i = .int .i64 k ∧ Hid (∀ j, j < k → (fun i => !thereB (pt i) n2) j = false) ∧ Below w.heap.size w wr) (fun i _ => n - (intOf i).toNat)
  case atStart => exact ⟨0, Nat.zero_le _, rfl, Lib.hid (fun _ h => absurd h (by omega)), Below.refl _ _⟩
  case round =>
    obtain ⟨k, hk, rfl, H, hB⟩ := hrel
    by_cases hlt : k < n
    · obtain ⟨ad, rfl, h0, h1, h2⟩ := (HL.out.later hB).at_ hlt
      cases hs : (fun i => !thereB (pt i) n2) k
      · have HS := Lib.hid hs
        simp only [] at hs
        go_wp2_with (go_at_call 39; refine (wrongP_is _ _ _ _ _ _ _ _ (cell_later hB HC.out)).mono ?_; rintro e w1 ⟨rfl, hb⟩; rw [hs])
        go_roundw
        case rel => exact ⟨k + 1, by omega, by go_num, Lib.hid (fun j hj => by by_cases e : j = k; (rw [e]; exact HS.out); exact H.out j (by omega)), below_step hB hb⟩
        case measure => simp [intOf]; omega
      · have HS := Lib.hid hs
        simp only [] at hs
        go_wp2_with (go_at_call 39; refine (wrongP_is _ _ _ _ _ _ _ _ (cell_later hB HC.out)).mono ?_; rintro e w1 ⟨rfl, hb⟩; rw [hs])
        go_ret
        exact ⟨ret_int (firstN_hit (p := (fun i => !thereB (pt i) n2)) HS.out H.out hlt).symm, below_step hB hb⟩
    · obtain rfl : k = n := by omega
      go_wp2
      go_ret
      exact ⟨ret_int (firstN_none (p := (fun i => !thereB (pt i) n2)) H.out).symm, hB⟩

set_option maxHeartbeats 400000 in
theorem hasP {A A2 : Option Addr} {n c B n2 c2 : Nat} {pt al au : Nat → Int} {w : World} (h : PepsAt w A n pt al au) (hn : n ≤ 64) (hc : w.cell? ⟨B, 0, none⟩ = some (.slice A2 n2 c2)) :
    Calls Try.prog 41 #[.slice A n c, .func (.func 39) #[] #[.pointer (some ⟨B, 0, none⟩)]] w fun e w' => e = .returned (.bool (anyN (fun i => !thereB (pt i) n2) n)) ∧ Below w.heap.size w w' := by
  have HL := Lib.hid h
  clear h
  have HC := Lib.hid hc
  clear hc
  go_enter Try.func41, Try.ntmps41
  go_wp2_with (go_at_call 44; refine (idxP HL.out hn HC.out).mono ?_; rintro e w1 ⟨rfl, hb⟩)
  go_ret
  exact ⟨rfl, hb⟩

end Go.Proofs.Ytnehcaefafdiaaa
