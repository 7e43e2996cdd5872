/-
  What the document's Find, Below, Same, Sees and May (package lockageref02) answer. No conditions but how the lists lie in memory.
-/
import Derived.Test.YtnehcaefafdiaaaRosterI
import Derived.WalkKit
import Derived.OwnWalk
namespace Go.Proofs.Ytnehcaefafdiaaa
open Go.RowKit

theorem refoff_set (l s m t : Int) (hs : SetN s) (ht : SetN t) (w : World) :
    Calls Try.prog 33 #[.agg #[.int .i64 l, .int .u16 s], .agg #[.int .i64 m, .int .u16 t]] w fun e w' => e = .returned (.agg #[.int .i64 (offL l m), .int .u16 (offS s t)]) ∧ Below w.heap.size w w' := by
  rw [← acc_off hs ht]
  exact refoff_is l s m t w

section
variable {A B : Option Addr} {n m c d : Nat} {lv st pt al au : Nat → Int} {w : World}

theorem same_comm (a b c d : Int) : sameB a b c d = sameB c d a b := by
  rw [Bool.eq_iff_iff, sameB_iff, sameB_iff]
  exact ⟨fun ⟨h, k⟩ => ⟨h.symm, k.symm⟩, fun ⟨h, k⟩ => ⟨h.symm, k.symm⟩⟩

set_option maxHeartbeats 400000 in
theorem reffind_is (h : LabsAt w A n lv st) (hn : n ≤ 64) (l s : Int) :
    Calls Try.prog 19 #[.slice A n c, .agg #[.int .i64 l, .int .u16 s]] w fun e w' => e = .returned (.int .i64 (firstN (fun i => sameB l s (lv i) (st i)) n)) ∧ Below w.heap.size w w' := by
  have HL := Lib.hid h
  clear h
  go_enter Try.func19, Try.ntmps19
  go_wp2
  go_loopw [5] (fun i wr => ∃ k q : Nat, k ≤ n ∧ i = .int .i64 k ∧ Hid (∀ j, j < k → sameB l s (lv j) (st j) = false) ∧ wr = (w.alloc (.cells #[.int .i64 l, .int .u16 s] 26)).drewN q) (fun i _ => n - (intOf i).toNat)
  case atStart => exact ⟨0, 0, Nat.zero_le _, rfl, Lib.hid (fun _ h => absurd h (by omega)), rfl⟩
  case round =>
    obtain ⟨k, q, hk, rfl, H, rfl⟩ := hrel
    by_cases hlt : k < n
    · obtain ⟨ad, rfl, h0, h1⟩ := (HL.out.alloc (.cells #[.int .i64 l, .int .u16 s] 26)).at_ hlt
      cases hs : sameB l s (lv k) (st k)
      · have hs' : sameB (lv k) (st k) l s = false := by rw [same_comm]; exact hs
        have HS := Lib.hid hs
        clear hs
        go_wp2
        go_quiet (fail)
        go_wp2
        go_roundw
        case rel => exact ⟨k + 1, _, by omega, by go_num, Lib.hid (fun j hj => by by_cases e : j = k; (rw [e]; exact HS.out); exact H.out j (by omega)), rfl⟩
        case measure => simp [intOf]; omega
      · have hs' : sameB (lv k) (st k) l s = true := by rw [same_comm]; exact hs
        have HS := Lib.hid hs
        clear hs
        go_wp2
        go_quiet (fail)
        go_wp2
        go_ret
        exact ⟨ret_int (firstN_hit (p := fun i => sameB l s (lv i) (st i)) HS.out H.out hlt).symm, below_drewN (below_drewN ((Below.refl _ _).alloc (Nat.le_refl _) _) _) _⟩
    · obtain rfl : k = n := by omega
      go_wp2
      go_ret
      exact ⟨ret_int (firstN_none (p := fun i => sameB l s (lv i) (st i)) H.out).symm, below_drewN ((Below.refl _ _).alloc (Nat.le_refl _) _) _⟩

set_option maxHeartbeats 400000 in
theorem same_is {zs : List Int} (ha : IntsAt w A zs) (hb : IntsAt w B zs) (hn : zs.length ≤ 64) :
    Calls Try.prog 20 #[.slice A zs.length c, .slice B zs.length d] w fun e w' => e = .returned (.bool true) ∧ Below w.heap.size w w' := by
  have HA := Lib.hid ha
  have HB := Lib.hid hb
  clear ha hb
  go_enter Try.func20, Try.ntmps20
  go_wp2
  go_loopw [5] (fun i wr => ∃ k q : Nat, k ≤ zs.length ∧ i = .int .i64 k ∧ wr = w.drewN q) (fun i _ => zs.length - (intOf i).toNat)
  case atStart => exact ⟨0, 0, Nat.zero_le _, rfl, rfl⟩
  case round =>
    obtain ⟨k, q, hk, rfl, rfl⟩ := hrel
    by_cases hlt : k < zs.length
    · obtain ⟨ad, rfl, h0⟩ := HA.out.at_ hlt
      obtain ⟨bd, rfl, h1⟩ := HB.out.at_ hlt
      generalize zs.getD k 0 = z at h0 h1
      go_wp2
      go_quiet (fail)
      go_wp2
      go_roundw
      case rel => exact ⟨k + 1, _, by omega, by go_num, rfl⟩
      case measure => simp [intOf]; omega
    · go_wp2
      go_ret
      exact ⟨rfl, below_drewN (Below.refl _ _) _⟩

end
end Go.Proofs.Ytnehcaefafdiaaa
