/-
  What slices.Index, Contains, and roster's twice answer of labels. No conditions but how the labels lie in memory.
-/
import Derived.Test.YtnehcaefafdiaaaRosterA
import Derived.WalkKit
import Derived.Deep.QuietTactic
import Derived.BigQuiet
import Derived.Test.YtnehcaefafdiaaaKept
namespace Go.Proofs.Ytnehcaefafdiaaa
open Go.RowKit

set_option maxHeartbeats 400000 in
theorem index_is {A : Option Addr} {n c : Nat} {lv st : Nat → Int} {w : World} (h : LabsAt w A n lv st) (hn : n ≤ 64) (l s : Int) :
    Calls Try.prog 34 #[.slice A n c, .agg #[.int .i64 l, .int .u16 s]] w fun e w' => e = .returned (.int .i64 (firstN (fun i => sameB l s (lv i) (st i)) n)) ∧ Below w.heap.size w w' := by
  have HL := Lib.hid h
  clear h
  go_enter Try.func34, Try.ntmps34
  go_wp2
  go_loopw [8] (fun i wr => ∃ k q : Nat, k ≤ n ∧ i = .int .i64 k ∧ Hid (∀ j, j < k → sameB l s (lv j) (st j) = false) ∧ wr = (w.alloc (.cells #[.int .i64 l, .int .u16 s] 26)).drewN q) (fun i _ => n - (intOf i).toNat)
  case atStart => exact ⟨0, 0, Nat.zero_le _, rfl, Lib.hid (fun _ h => absurd h (by omega)), rfl⟩
  case round =>
    obtain ⟨k, q, hk, rfl, H, rfl⟩ := hrel
    by_cases hlt : k < n
    · obtain ⟨ad, rfl, h0, h1⟩ := (HL.out.alloc (.cells #[.int .i64 l, .int .u16 s] 26)).at_ hlt
      cases hs : sameB l s (lv k) (st k)
      · go_wp2
        go_quiet (fail)
        go_wp2
        go_roundw
        case rel => exact ⟨k + 1, _, by omega, by go_num, Lib.hid (fun j hj => by by_cases e : j = k; (rw [e]; exact hs); exact H.out j (by omega)), rfl⟩
        case measure => simp [intOf]; omega
      · go_wp2
        go_quiet (fail)
        go_wp2
        go_ret
        exact ⟨ret_int (firstN_hit (p := fun i => sameB l s (lv i) (st i)) hs H.out hlt).symm, below_drewN (below_drewN ((Below.refl _ _).alloc (Nat.le_refl _) _) _) _⟩
    · obtain rfl : k = n := by omega
      go_wp2
      go_ret
      exact ⟨ret_int (firstN_none (p := fun i => sameB l s (lv i) (st i)) H.out).symm, below_drewN ((Below.refl _ _).alloc (Nat.le_refl _) _) _⟩

set_option maxHeartbeats 400000 in
theorem contains_is {A : Option Addr} {n c : Nat} {lv st : Nat → Int} {w : World} (h : LabsAt w A n lv st) (hn : n ≤ 64) (l s : Int) :
    Calls Try.prog 45 #[.slice A n c, .agg #[.int .i64 l, .int .u16 s]] w fun e w' => e = .returned (.bool (anyN (fun i => sameB l s (lv i) (st i)) n)) ∧ Below w.heap.size w w' := by
  have HL := Lib.hid h
  clear h
  go_enter Try.func45, Try.ntmps45
  go_wp2_with (go_at_call 34; refine (index_is (HL.out.alloc _) hn _ _).mono ?_; rintro e w1 ⟨rfl, hb⟩)
  go_ret
  exact ⟨rfl, below_step ((Below.refl _ _).alloc (Nat.le_refl _) _) hb⟩

/-- Have two partitions one label? -/
def twiceB (n : Nat) (lv st : Nat → Int) : Bool := anyN (fun i => anyN (fun j => sameB (lv i) (st i) (lv j) (st j)) i) n

theorem LabsAt.fewer {w : World} {A : Option Addr} {n k : Nat} {lv st : Nat → Int} (h : LabsAt w A n lv st) (hk : k ≤ n) : LabsAt w A k lv st := fun h0 => by
  obtain ⟨ad, e, hc⟩ := h (by omega)
  exact ⟨ad, e, fun i hi => hc i (by omega)⟩

/-- What is held while a label is looked for among those ahead of it. -/
def TwS (wr : World) (ad : Addr) (k : Nat) (lv st : Nat → Int) (W : World) : Prop :=
  W.cell? ⟨wr.heap.size, 0, none⟩ = some (.int .i64 (lv k)) ∧ W.cell? ⟨wr.heap.size, 1, none⟩ = some (.int .u16 (st k)) ∧ LabsAt W (some ad) k lv st ∧ Below wr.heap.size wr W
theorem TwS.keep {wr : World} {ad : Addr} {k : Nat} {lv st : Nat → Int} : ∀ w w', TwS wr ad k lv st w → Below w.heap.size w w' → TwS wr ad k lv st w' :=
  fun _ _ ⟨a, b, c, d⟩ hb => ⟨cell_later hb a, cell_later hb b, c.later hb, below_step d hb⟩

set_option maxHeartbeats 400000 in
theorem twice_is {A : Option Addr} {n c : Nat} {lv st : Nat → Int} {w : World} (h : LabsAt w A n lv st) (hn : n ≤ 64) (hc : n ≤ c) :
    Calls Try.prog 42 #[.slice A n c] w fun e w' => e = .returned (.bool (twiceB n lv st)) ∧ Below w.heap.size w w' := by
  have HL := Lib.hid h
  clear h
  go_enter Try.func42, Try.ntmps42
  go_wp2
  go_loopw [7] (fun i wr => ∃ k : Nat, k ≤ n ∧ i = .int .i64 k ∧ Hid (∀ i, i < k → anyN (fun j => sameB (lv i) (st i) (lv j) (st j)) i = false) ∧ Below w.heap.size w wr) (fun i _ => n - (intOf i).toNat)
  case atStart => exact ⟨0, Nat.zero_le _, rfl, Lib.hid (fun _ h => absurd h (by omega)), Below.refl _ _⟩
  case round =>
    obtain ⟨k, hk, rfl, H, hB⟩ := hrel
    by_cases hlt : k < n
    · have hl := HL.out.later hB
      obtain ⟨ad, rfl, h0, h1⟩ := hl.at_ hlt
      have hkc : k ≤ c := by omega
      have hl2 : LabsAt (wr.alloc (.cells #[.int .i64 (lv k), .int .u16 (st k)] 26)) (some ad) k lv st := (hl.fewer (by omega)).alloc _
      cases hs : anyN (fun j => sameB (lv k) (st k) (lv j) (st j)) k
      · go_wp2
        refine wp_region_kept (TwS wr ad k lv st) (by kernel_rfl) (by kernel_rfl) ⟨by simp [go_sem], by simp [go_sem], hl2, ((Below.refl _ _).alloc (Nat.le_refl _) _).drew⟩ ?_
        intro hne
        have f0 : ∀ x : HeldW (TwS wr ad k lv st), x.w.cell? ⟨wr.heap.size, 0, none⟩ = some (.int .i64 (lv k)) := fun x => x.ok.1
        have f1 : ∀ x : HeldW (TwS wr ad k lv st), x.w.cell? ⟨wr.heap.size, 1, none⟩ = some (.int .u16 (st k)) := fun x => x.ok.2.1
        repeat (go_big_quiet_step ((go_at_call 45; rename_i x; refine kept_of TwS.keep (contains_is x.ok.2.2.1 (by omega) _ _))))
        refine wpQuiet_nil ?_
        rintro _ ⟨⟨wq, hq⟩, rfl⟩
        obtain ⟨_, _, _, hbq⟩ := hq
        clear f0 f1 hne
        rw [hs]
        go_wp2
        go_roundw
        case rel => exact ⟨k + 1, by omega, by go_num, Lib.hid (fun j hj => by by_cases e : j = k; (rw [e]; exact hs); exact H.out j (by omega)), below_step hB hbq⟩
        case measure => simp [intOf]; omega
      · go_wp2
        refine wp_region_kept (TwS wr ad k lv st) (by kernel_rfl) (by kernel_rfl) ⟨by simp [go_sem], by simp [go_sem], hl2, ((Below.refl _ _).alloc (Nat.le_refl _) _).drew⟩ ?_
        intro hne
        have f0 : ∀ x : HeldW (TwS wr ad k lv st), x.w.cell? ⟨wr.heap.size, 0, none⟩ = some (.int .i64 (lv k)) := fun x => x.ok.1
        have f1 : ∀ x : HeldW (TwS wr ad k lv st), x.w.cell? ⟨wr.heap.size, 1, none⟩ = some (.int .u16 (st k)) := fun x => x.ok.2.1
        repeat (go_big_quiet_step ((go_at_call 45; rename_i x; refine kept_of TwS.keep (contains_is x.ok.2.2.1 (by omega) _ _))))
        refine wpQuiet_nil ?_
        rintro _ ⟨⟨wq, hq⟩, rfl⟩
        obtain ⟨_, _, _, hbq⟩ := hq
        clear f0 f1 hne
        rw [hs]
        go_wp2
        go_ret
        exact ⟨ret_bool (anyN_yes (p := fun i => anyN (fun j => sameB (lv i) (st i) (lv j) (st j)) i) hlt hs).symm, below_step hB hbq⟩
    · obtain rfl : k = n := by omega
      go_wp2
      go_ret
      exact ⟨ret_bool (anyN_no H.out).symm, hB⟩

end Go.Proofs.Ytnehcaefafdiaaa
