/-
  What the laws' sectors (package lockagelaw05) answers: what a disk keeps, from a place on, in a row of its own. No conditions but how the disk lies, and sizes.
-/
import Derived.Test.YtbdgmddlghhkjaaPlgY
import Derived.Maps.AppendAt
namespace Go.Proofs.Ytbdgmddlghhkjaa
open Go.RowKit

/-- What a disk keeps, from a place on. -/
def secL (st : Dk) (b : Int) (n : Nat) : List ByteArray := (List.range n).map fun (i : Nat) => rdK st.kept (b + (i : Int))
theorem secL_len (st : Dk) (b : Int) (n : Nat) : (secL st b n).length = n := by simp [secL]
theorem secL_snoc (st : Dk) (b : Int) (n : Nat) : secL st b (n + 1) = secL st b n ++ [rdK st.kept (b + (n : Int))] := by simp [secL, List.range_succ]
section
variable {w : World} {db D : Nat} {st : Dk}
/-- What is held while they are read. -/
structure SeS (w : World) (st : Dk) (b : Int) (k : Nat) (u : Value) (W : World) : Prop where
  row : W.ownsRow w.heap.size 9 1 u k (txV (secL st b k))
  low : Below w.heap.size w W
set_option maxHeartbeats 1000000 in
set_option maxRecDepth 100000 in
theorem secs_is (hd : DiskAt w db D st) (b half : Int) (N : Nat) (hN : 2 * half = N) (b0 : 0 ≤ b) (b1 : b ≤ 100000) (hN2 : N ≤ 5000) :
    Calls Try.prog 19 #[.pointer (some ⟨D, 0, none⟩), .int .i64 b, .int .i64 half] w fun e w' => ∃ A c, e = .returned (.slice A N c) ∧ w'.ownsRow w.heap.size 9 1 (.slice A N c) N (txV (secL st b N)) ∧ Below w.heap.size w w' := by
  have KE := Lib.hid (fun (W : World) (hW : Below w.heap.size w W) (i : Int) => (show Calls Try.prog 36 #[.pointer (some ⟨D, 0, none⟩), .int .i64 i] W fun e w' => e = .returned (.string (rdK st.kept i)) ∧ W = w' from dkept_is (diskAt_later hd hW) i))
  have HN := Lib.hid hN
  have hh : half ≤ 2500 := by omega
  have hh0 : 0 ≤ half := by omega
  obtain ⟨i0, hi0, q0, q1, q2⟩ := info_parts info_str4
  clear hd hN
  go_enter Try.func19, Try.ntmps19
  go_wp2_with fail
  go_loopw [7, 11] (fun a i wr => ∃ (k : Nat) (u : Value), k ≤ N ∧ i = .int .i64 k ∧ u = a ∧ SeS w st b k u wr) (fun _ i _ => N - (intOf i).toNat)
  case atStart => exact ⟨0, _, Nat.zero_le _, rfl, rfl, ⟨World.ownsRow_nil _ _ _ _, Below.refl _ _⟩⟩
  case round =>
    obtain ⟨k, u, hk, rfl, hu, hG⟩ := hrel
    subst hu
    have HG := Lib.hid hG
    clear hG
    by_cases hlt : k < N
    · have hlt2 : (k : Int) < 2 * half := by have := HN.out; omega
      go_wp2_with fail
      refine (KE.out _ HG.out.low _).mono ?_
      rintro e w5 ⟨rfl, hw5⟩
      subst hw5
      generalize ht : rdK st.kept (b + (k : Int)) = t
      have HT := Lib.hid ht
      clear ht
      have HA6 := Lib.hid (show Below wr.heap.size wr (wr.alloc (.cells #[.string t] 9)) from (Below.refl _ _).alloc (Nat.le_refl _) _)
      have HR6 := Lib.hid (own_agree HG.out.row (fun q _ hq => HA6.out.block q hq))
      have HB6 := Lib.hid (below_step HG.out.low HA6.out)
      have HNW := Lib.hid (show ∀ j u, [Value.string t][j]? = some u → (wr.alloc (.cells #[.string t] 9)).cell? ((⟨wr.heap.size, 0, none⟩ : Addr).add j) = some u from one_cell_new wr (.string t) 9)
      have HLE := Lib.hid HB6.out.size
      clear HA6 HG
      go_wp2_with (at_builtin; refine wpList_append_own_at _ rfl (.tmp 14) (.tmp 20) 35 rfl w.heap.size 9 i0 _ 1 16 Try.underlying35 hi0 q0 q1 q2 rfl (by omega) u k (txV (secL st b k)) rfl HR6.out ⟨wr.heap.size, 0, none⟩ 1 1 [.string t] rfl rfl HNW.out (by simp [Value.oneCell']) (by unfold maxLen; omega) (by omega) HLE.out ?_; intro u2 w7 hown7 hg7 _ _; have HR7 := Lib.hid hown7; have HG7 := Lib.hid hg7; clear hown7 hg7)
      have HS : SeS w st b (k + 1) u2 w7 := by
        refine ⟨?_, HB6.out.trans (Below.grown (Below.refl _ _) HG7.out HLE.out (fun b e => (own_type HR6.out e).1))⟩
        rw [secL_snoc, HT.out, show txV (secL st b k ++ [t]) = txV (secL st b k) ++ [.string t] from List.map_append]
        exact HR7.out
      have HS' := Lib.hid HS
      clear HS HR7 HG7 HR6 HB6 HNW HLE
      go_wp2_with fail
      go_roundw
      case rel => exact ⟨k + 1, u2, by omega, by go_num, rfl, HS'.out⟩
      case measure => simp [intOf]; omega
    · obtain rfl : k = N := by omega
      have hge : ¬ (k : Int) < 2 * half := by have := HN.out; omega
      obtain ⟨Au, cu, eu, _⟩ := own_texts HG.out.row (secL_len _ _ _).symm
      subst eu
      go_wp2_with fail
      go_ret
      exact ⟨Au, cu, rfl, HG.out.row, HG.out.low⟩
end
end Go.Proofs.Ytbdgmddlghhkjaa
