/-
  What the program's number and put (package sector) do on a row of bytes. No conditions but the row's, and at most eight bytes.
-/
import Derived.Test.YtbdgmddlghhkjaaSecR
import Derived.Laws.BitsAllLaws
import Derived.Laws.CopyOwn
import Derived.Deep.WholeRow
namespace Go.Proofs.Ytbdgmddlghhkjaa
open Go.RowKit

theorem val_or (l : List UInt8) {k : Nat} (hk : k < l.length) (h8 : l.length ≤ 8) : bits .or .u64 (IntKind.u64.wrap ((valL (l.take k) : Int) * 256)) (l[k].toNat : Int) = (valL (l.take (k + 1)) : Nat) := by
  have h1 := valL_lt (l.take k)
  have hl : (l.take k).length = k := by rw [List.length_take]; omega
  rw [hl] at h1
  have h2 : 256 ^ k ≤ 256 ^ 7 := Nat.pow_le_pow_right (by omega) (by omega)
  have h3 := l[k].toNat_lt
  have e1 : IntKind.u64.wrap ((valL (l.take k) : Int) * 256) = ((valL (l.take k) * 256 : Nat) : Int) := by rw [IntKind.wrap_u64]; omega
  rw [e1, u64_or_nat _ _ (by omega) (by omega), List.take_succ_eq_append_getElem hk, valL_snoc]
  congr 1
  have := Nat.shiftLeft_add_eq_or_of_lt (i := 8) (b := l[k].toNat) (by omega) (valL (l.take k))
  rw [Nat.shiftLeft_eq, show (2 : Nat) ^ 8 = 256 from rfl] at this
  omega

set_option maxHeartbeats 400000 in
set_option maxRecDepth 100000 in
theorem number_is (g off cap : Nat) (l : List UInt8) (h8 : l.length ≤ 8) (w : World) (hc : ∀ i b, l[i]? = some b → w.cell? ⟨g, off + i, none⟩ = some (.int .u8 (b.toNat : Int))) :
    Calls Try.prog 60 #[.slice (some ⟨g, off, none⟩) l.length cap] w fun e w' => e = .returned (.int .u64 (valL l : Nat)) ∧ w = w' := by
  have HC := Lib.hid hc
  clear hc
  go_enter Try.func60, Try.ntmps60
  go_wp2_with fail
  go_loop [3, 8] (fun t i => ∃ k : Nat, k ≤ l.length ∧ i = .int .i64 k ∧ t = .int .u64 (valL (l.take k) : Nat)) (fun _ i => l.length - (intOf i).toNat)
  case atStart => exact ⟨0, Nat.zero_le _, rfl, rfl⟩
  case round =>
    obtain ⟨k, hk, rfl, rfl⟩ := hrel
    by_cases hlt : k < l.length
    · have hv := Lib.hid (val_or l hlt h8)
      have hcell := HC.out k _ (List.getElem?_eq_getElem hlt)
      generalize hb : (l[k].toNat : Int) = b at hv hcell
      have hb0 : 0 ≤ b := by omega
      have hb1 : b < 256 := by have := l[k].toNat_lt; omega
      have hbw : IntKind.u64.wrap b = b := by rw [IntKind.wrap_u64]; omega
      clear hb
      go_wp2_with fail
      refine ⟨⟨k + 1, by omega, by go_num, ?_⟩, by simp [intOf]; omega⟩
      rw [hv.out]
    · obtain rfl : k = l.length := by omega
      go_wp2_with fail
      go_ret
      exact ⟨ret_int rfl, rfl⟩

/-- The row, k rounds on. -/
def putK (cs : List Value) (off len : Nat) (n : Int) (k : Nat) : List Value := cs.take (off + len - k) ++ (cellsB ((numL n.toNat len).drop (len - k)) ++ cs.drop (off + len))
theorem putK_zero (cs : List Value) (off len : Nat) (n : Int) : putK cs off len n 0 = cs := by
  have e : (numL n.toNat len).drop len = [] := List.drop_eq_nil_of_le (by rw [numL_len]; exact Nat.le_refl _)
  simp [putK, e, cellsB]
theorem putK_all (cs : List Value) (off len : Nat) (n : Int) : putK cs off len n len = splice cs off (cellsB (numL n.toNat len)) := by
  have e : off + len - len = off := by omega
  simp [putK, splice, e, cellsB_len, numL_len]
theorem putK_len {cs : List Value} {off len : Nat} (n : Int) {k : Nat} (h : off + len ≤ cs.length) (hk : k ≤ len) : (putK cs off len n k).length = cs.length := by
  simp [putK, cellsB_len, numL_len]
  omega
theorem putK_step {cs : List Value} {off len : Nat} {n : Int} {k : Nat} (h0 : 0 ≤ n) (h : off + len ≤ cs.length) (hk : k < len) : (putK cs off len n k).set (off + (len - 1 - k)) (.int .u8 (n / 2 ^ (8 * k) % 256)) = putK cs off len n (k + 1) := by
  have hl : len - 1 - k < (numL n.toNat len).length := by rw [numL_len]; omega
  have hg := numL_get n.toNat len (m := len - 1 - k) (by omega)
  rw [List.getElem?_eq_getElem hl] at hg
  have hg2 := Option.some.inj hg
  rw [show len - 1 - (len - 1 - k) = k by omega] at hg2
  have hd : (numL n.toNat len).drop (len - (k + 1)) = UInt8.ofNat (n.toNat / 256 ^ k) :: (numL n.toNat len).drop (len - k) := by
    rw [show len - (k + 1) = len - 1 - k by omega, List.drop_eq_getElem_cons hl, hg2, show len - 1 - k + 1 = len - k by omega]
  have ht : cs.take (off + len - k) = cs.take (off + len - (k + 1)) ++ [cs[off + len - (k + 1)]'(by omega)] := by
    rw [← List.take_succ_eq_append_getElem (by omega)]
    congr 1
    omega
  unfold putK
  rw [hd, ht, List.append_assoc, List.set_append_right _ _ (by rw [List.length_take]; omega)]
  congr 1
  rw [List.length_take, show off + (len - 1 - k) - min (off + len - (k + 1)) cs.length = 0 by omega]
  simp only [List.set_cons_zero, cellsB, List.map_cons, List.cons_append]
  congr 1
  congr 1
  have e : (UInt8.ofNat (n.toNat / 256 ^ k)).toNat = n.toNat / 256 ^ k % 256 := by simp
  have e2 : (2 : Int) ^ (8 * k) = ((256 ^ k : Nat) : Int) := by
    rw [Int.pow_mul]
    simp
  have e3 : n = (n.toNat : Int) := by omega
  rw [e, e2]
  conv => lhs; rw [e3]
  rw [← Int.natCast_ediv]
  omega

set_option maxHeartbeats 400000 in
set_option maxRecDepth 100000 in
theorem put_is (g off len cap : Nat) (cs : List Value) (t : TypeId) (n : Int) (h0 : 0 ≤ n) (_h1 : n < 18446744073709551616) (h8 : len ≤ 8) (hfit : off + len ≤ cs.length) (w : World) (hg : w.heap[g]? = some (.cells cs.toArray t (0, 0))) :
    Calls Try.prog 61 #[.slice (some ⟨g, off, none⟩) len cap, .int .u64 n] w fun e w' => e = .returned (.tuple #[]) ∧ w' = w.setRow g (splice cs off (cellsB (numL n.toNat len))).toArray := by
  have HG := Lib.hid hg
  clear hg
  go_enter Try.func61, Try.ntmps61
  go_wp2_with fail
  go_loopw [7] (fun i wr => ∃ k : Nat, k ≤ len ∧ i = .int .i64 k ∧ wr = w.setRow g (putK cs off len n k).toArray) (fun i _ => len - (intOf i).toNat)
  case atStart => exact ⟨0, Nat.zero_le _, rfl, by rw [putK_zero, setRow_self _ _ _ _ _ HG.out]⟩
  case round =>
    obtain ⟨k, hk, rfl, hw⟩ := hrel
    have HW := Lib.hid hw
    by_cases hlt : k < len
    · have hr : wr.heap[g]? = some (.cells (putK cs off len n k).toArray t (0, 0)) := by rw [hw]; exact setRow_heap w g _ _ _ _ HG.out
      have hpl := putK_len n hfit hk
      have hcell := cellH hr (off + (len - 1 - k))
      have hfree := freeH hr
      obtain ⟨v0, hv0⟩ : ∃ v, (putK cs off len n k)[off + (len - 1 - k)]? = some v := ⟨_, List.getElem?_eq_getElem (by omega)⟩
      have hcell2 : wr.cell? ⟨g, off + (len - 1 - k), none⟩ = some v0 := by rw [hcell]; simpa using hv0
      have HSET := Lib.hid (show wr.setCell ⟨g, off + (len - 1 - k), none⟩ (.int .u8 (n / 2 ^ (8 * k) % 256)) = w.setRow g (putK cs off len n (k + 1)).toArray by
        rw [setCell_eq_setRow wr g _ _ _ _ _ hr, hw, setRow_setRow, ← putK_step h0 hfit hlt]
        simp)
      have ei : ((len : Int) - 1 - k).toNat = len - 1 - k := by omega
      have ei2 : (0 : Int) ≤ (len : Int) - 1 - k := by omega
      have ei3 : (len : Int) - 1 - k < len := by omega
      clear hcell hv0 hr hw
      go_wp2_with fail
      exact ⟨⟨k + 1, by omega, by go_num, HSET.out⟩, by simp [intOf]; omega⟩
    · obtain rfl : k = len := by omega
      have hpa := putK_all cs off k n
      clear hw
      go_wp2_with fail
      go_end0
      exact ⟨rfl, by rw [HW.out, hpa]⟩
end Go.Proofs.Ytbdgmddlghhkjaa
