/-
  What the document's words for sectors (package lockageref04) answer: Right, Count, number, value. No conditions but the numbers' types.
-/
import Derived.Test.YtbdgmddlghhkjaaProg
import Derived.Test.YtbdgmddlghhkjaaSecQ
import Derived.WalkKit
import Derived.WalkSpells
import Derived.OwnWalk
import Derived.Laws.OwnMore
import Derived.Laws.MakeOwn
import Derived.Outline
namespace Go.Proofs.Ytbdgmddlghhkjaa
open Go.RowKit

theorem ret_bool {a b : Bool} (h : a = b) : Ending.returned (.bool a) = .returned (.bool b) := by rw [h]
theorem ret_int {k : IntKind} {a b : Int} (h : a = b) : Ending.returned (.int k a) = .returned (.int k b) := by rw [h]
theorem ret_str {a b : ByteArray} (h : a = b) : Ending.returned (.string a) = .returned (.string b) := by rw [h]

/-- A piece, as a value. -/
def pcC (p : Pc) : Array Value := #[.int .u64 p.stamp, .int .i64 p.gen, .int .i64 p.no, .int .i64 p.idx, .int .i64 p.tot, .string p.data]

set_option maxHeartbeats 1000000 in
set_option maxRecDepth 100000 in
theorem refright_is (s g o i t : Int) (d : ByteArray) (w : World) :
    Calls Try.prog 47 #[.agg #[.int .u64 s, .int .i64 g, .int .i64 o, .int .i64 i, .int .i64 t, .string d]] w fun e w' => e = .returned (.bool (rightP ⟨s, g, o, i, t, d⟩)) ∧ Below w.heap.size w w' := by
  by_cases g0 : 0 ≤ g
  rotate_left
  · have H := Lib.hid (show rightP ⟨s, g, o, i, t, d⟩ = false by simp [rightP, g0])
    go_enter Try.func47, Try.ntmps47
    go_wp2_with fail
    go_ret
    exact ⟨ret_bool H.out.symm, (Below.refl _ _).alloc (Nat.le_refl _) _⟩
  by_cases g1 : g < 2147483648
  rotate_left
  · have H := Lib.hid (show rightP ⟨s, g, o, i, t, d⟩ = false by simp [rightP, g1])
    go_enter Try.func47, Try.ntmps47
    go_wp2_with fail
    go_ret
    exact ⟨ret_bool H.out.symm, (Below.refl _ _).alloc (Nat.le_refl _) _⟩
  by_cases n0 : 0 ≤ o
  rotate_left
  · have H := Lib.hid (show rightP ⟨s, g, o, i, t, d⟩ = false by simp [rightP, n0])
    go_enter Try.func47, Try.ntmps47
    go_wp2_with fail
    go_ret
    exact ⟨ret_bool H.out.symm, (Below.refl _ _).alloc (Nat.le_refl _) _⟩
  by_cases n1 : o < 65536
  rotate_left
  · have H := Lib.hid (show rightP ⟨s, g, o, i, t, d⟩ = false by simp [rightP, n1])
    go_enter Try.func47, Try.ntmps47
    go_wp2_with fail
    go_ret
    exact ⟨ret_bool H.out.symm, (Below.refl _ _).alloc (Nat.le_refl _) _⟩
  by_cases t0 : 1 ≤ t
  rotate_left
  · have H := Lib.hid (show rightP ⟨s, g, o, i, t, d⟩ = false by simp [rightP, t0])
    go_enter Try.func47, Try.ntmps47
    go_wp2_with fail
    go_ret
    exact ⟨ret_bool H.out.symm, (Below.refl _ _).alloc (Nat.le_refl _) _⟩
  by_cases t1 : t < 65536
  rotate_left
  · have H := Lib.hid (show rightP ⟨s, g, o, i, t, d⟩ = false by simp [rightP, t1])
    go_enter Try.func47, Try.ntmps47
    go_wp2_with fail
    go_ret
    exact ⟨ret_bool H.out.symm, (Below.refl _ _).alloc (Nat.le_refl _) _⟩
  by_cases i0 : 0 ≤ i
  rotate_left
  · have H := Lib.hid (show rightP ⟨s, g, o, i, t, d⟩ = false by simp [rightP, i0])
    go_enter Try.func47, Try.ntmps47
    go_wp2_with fail
    go_ret
    exact ⟨ret_bool H.out.symm, (Below.refl _ _).alloc (Nat.le_refl _) _⟩
  by_cases i1 : i < t
  rotate_left
  · have H := Lib.hid (show rightP ⟨s, g, o, i, t, d⟩ = false by simp [rightP, i1])
    go_enter Try.func47, Try.ntmps47
    go_wp2_with fail
    go_ret
    exact ⟨ret_bool H.out.symm, (Below.refl _ _).alloc (Nat.le_refl _) _⟩
  by_cases dd : d.size ≤ 37
  rotate_left
  · have H := Lib.hid (show rightP ⟨s, g, o, i, t, d⟩ = false by simp [rightP, dd])
    go_enter Try.func47, Try.ntmps47
    go_wp2_with fail
    go_ret
    exact ⟨ret_bool (by rw [H.out]; simp; omega), (Below.refl _ _).alloc (Nat.le_refl _) _⟩
  have H := Lib.hid (show rightP ⟨s, g, o, i, t, d⟩ = true by simp [rightP, g0, g1, n0, n1, t0, t1, i0, i1, dd])
  go_enter Try.func47, Try.ntmps47
  go_wp2_with fail
  go_ret
  exact ⟨ret_bool (by rw [H.out]; simp; omega), (Below.refl _ _).alloc (Nat.le_refl _) _⟩

set_option maxHeartbeats 400000 in
set_option maxRecDepth 100000 in
theorem refcount_is (n : Int) (h0 : -9223372036854775808 ≤ n) (h1 : n ≤ 9223372036854775807) (w : World) :
    Calls Try.prog 25 #[.int .i64 n] w fun e w' => e = .returned (.int .i64 (cntI n)) ∧ w = w' := by
  by_cases h : n ≤ 37
  · have H := Lib.hid (show cntI n = 1 by unfold cntI; rw [if_pos h])
    go_enter Try.func25, Try.ntmps25
    go_wp2_with fail
    go_ret
    exact ⟨ret_int H.out.symm, rfl⟩
  · have H := Lib.hid (show cntI n = (n - 1) / 37 + 1 by unfold cntI; rw [if_neg h])
    go_enter Try.func25, Try.ntmps25
    go_wp2_with fail
    go_ret
    exact ⟨ret_int H.out.symm, rfl⟩

theorem info_byte3 : (Try.prog.info? 5).map (fun i => (i.zero, i.size, i.bytes)) = some (some (.int .u8 0), 1, 1) := by kernel_rfl
def cellsB (l : List UInt8) : List Value := l.map fun b => .int .u8 b.toNat
theorem cellsB_len (l : List UInt8) : (cellsB l).length = l.length := by simp [cellsB]
theorem valL_snoc (l : List UInt8) (b : UInt8) : valL (l ++ [b]) = 256 * valL l + b.toNat := by simp [valL, List.foldl_append]
theorem val_next (s : ByteArray) {k : Nat} (hk : k < s.size) : valL ((bl s).take (k + 1)) = 256 * valL ((bl s).take k) + s[k].toNat := by
  have hl : k < (bl s).length := by rw [bl_len]; exact hk
  rw [List.take_succ_eq_append_getElem hl, valL_snoc]
  rfl
theorem val_wrap (s : ByteArray) {k : Nat} (hk : k < s.size) (h8 : s.size ≤ 8) : IntKind.u64.wrap (IntKind.u64.wrap (256 * (valL ((bl s).take k) : Int)) + IntKind.u64.wrap (s[k].toNat : Int)) = (valL ((bl s).take (k + 1)) : Nat) := by
  have h1 := valL_lt ((bl s).take (k + 1))
  have hl : ((bl s).take (k + 1)).length = k + 1 := by rw [List.length_take, bl_len]; omega
  rw [hl] at h1
  have h2 : 256 ^ (k + 1) ≤ 256 ^ 8 := Nat.pow_le_pow_right (by omega) (by omega)
  rw [val_next s hk] at h1 ⊢
  rw [IntKind.wrap_u64, IntKind.wrap_u64, IntKind.wrap_u64]
  omega

set_option maxHeartbeats 400000 in
set_option maxRecDepth 100000 in
theorem refvalue_is (s : ByteArray) (hs : s.size ≤ 8) (w : World) :
    Calls Try.prog 46 #[.string s] w fun e w' => e = .returned (.int .u64 (valB s)) ∧ w = w' := by
  go_enter Try.func46, Try.ntmps46
  go_wp2
  go_loop [3, 4] (fun t i => ∃ k : Nat, k ≤ s.size ∧ i = .int .i64 k ∧ t = .int .u64 (valL ((bl s).take k) : Nat)) (fun _ i => s.size - (intOf i).toNat)
  case atStart => exact ⟨0, Nat.zero_le _, rfl, rfl⟩
  case round =>
    obtain ⟨k, hk, rfl, rfl⟩ := hrel
    by_cases hlt : k < s.size
    · have hv := Lib.hid (val_wrap s hlt hs)
      go_wp2
      refine ⟨⟨k + 1, by omega, by go_num, ?_⟩, by simp [intOf]; omega⟩
      rw [hv.out]
    · obtain rfl : k = s.size := by omega
      have hv := Lib.hid (show (valL ((bl s).take s.size) : Int) = valB s by rw [List.take_of_length_le (by rw [bl_len]; exact Nat.le_refl _)]; rfl)
      go_wp2
      go_ret
      exact ⟨ret_int hv.out, rfl⟩

theorem numL_get (n k : Nat) : ∀ {m : Nat}, m < k → (numL n k)[m]? = some (UInt8.ofNat (n / 256 ^ (k - 1 - m))) := by
  induction k with
  | zero => intro m h; omega
  | succ k ih =>
    intro m h
    rw [numL]
    rcases m with _ | m
    · simp
    · rw [List.getElem?_cons_succ, ih (by omega)]
      congr 3
      congr 1
      omega
theorem num_next {n : Int} (h0 : 0 ≤ n) {k m : Nat} (h : m < k) : cellsB ((numL n.toNat k).take m) ++ [.int .u8 (n / 2 ^ (8 * (k - 1 - m)) % 256)] = cellsB ((numL n.toNat k).take (m + 1)) := by
  have hl : m < (numL n.toNat k).length := by rw [numL_len]; exact h
  have hg := numL_get n.toNat k h
  rw [List.getElem?_eq_getElem hl] at hg
  rw [List.take_succ_eq_append_getElem hl, Option.some.inj hg]
  simp only [cellsB, List.map_append, List.map_cons, List.map_nil]
  congr 3
  have e : (UInt8.ofNat (n.toNat / 256 ^ (k - 1 - m))).toNat = n.toNat / 256 ^ (k - 1 - m) % 256 := by simp
  rw [e]
  have e2 : (2 : Int) ^ (8 * (k - 1 - m)) = ((256 ^ (k - 1 - m) : Nat) : Int) := by
    rw [Int.pow_mul]
    simp
  rw [e2]
  have e3 : n = (n.toNat : Int) := by omega
  conv => lhs; rw [e3]
  rw [← Int.natCast_ediv]
  omega
theorem one_cell_new (w : World) (x : Value) (t : TypeId) : ∀ j u, [x][j]? = some u → (w.alloc (.cells #[x] t)).cell? ((⟨w.heap.size, 0, none⟩ : Addr).add j) = some u := by
  intro j u hu
  rcases j with _ | j
  · obtain rfl : x = u := by simpa using hu
    simp [go_sem, Addr.add]
  · simp at hu
theorem strOf_cells (l : List UInt8) : strOfNums (l.map fun b => (b.toNat : Int)) = ofL l := by
  apply ByteArray.ext
  apply Array.ext'
  have : ∀ l : List UInt8, l.map ((fun n : Int => UInt8.ofNat n.toNat) ∘ fun b => (b.toNat : Int)) = l := by
    intro l
    induction l with
    | nil => rfl
    | cons b l ih => simp only [List.map_cons, ih, Function.comp, Int.toNat_natCast, UInt8.ofNat_toNat]
  simp [strOfNums, ofL, this]
/-- A row of the call's own, as a text. -/
theorem own_conv {w : World} {base n : Nat} {g cap : Nat} {l : List UInt8} (h : w.ownsRow base 5 1 (.slice (some ⟨g, 0, none⟩) n cap) n (cellsB l)) (hn : l.length = n) :
    (convert 61 9 (.slice (some ⟨g, 0, none⟩) n cap)).run Try.prog w = .ok (.string (ofL l)) w := by
  have := run_convert_bytes_arg w 61 5 Try.underlying61 Try.underlying5 g 0 n cap (l.map fun b => (b.toNat : Int)) (by simpa using hn) (fun i hi => ?_) 9 Try.underlying9
  · rw [strOf_cells] at this
    exact this
  · rw [Nat.zero_add, h.cellAt _ (by omega)]
    simp [cellsB, show i < l.length by omega]

set_option maxHeartbeats 1000000 in
set_option maxRecDepth 100000 in
theorem refnumber_is (n : Int) (k : Nat) (h0 : 0 ≤ n) (_h1 : n < 18446744073709551616) (k1 : 1 ≤ k) (k8 : k ≤ 8) (w : World) :
    Calls Try.prog 59 #[.int .u64 n, .int .i64 k] w fun e w' => e = .returned (.string (numB n k)) ∧ Below w.heap.size w w' := by
  obtain ⟨i0, hi0, hz0, hz1, hz2⟩ := info_parts info_byte3
  go_enter Try.func59, Try.ntmps59
  go_wp2
  go_loopw [5, 6] (fun v i wr => ∃ m : Nat, m ≤ k ∧ i = .int .i64 ((k : Int) - 1 - m) ∧ wr.ownsRow w.heap.size 5 1 v m (cellsB ((numL n.toNat k).take m)) ∧ Below w.heap.size w wr) (fun _ i _ => (intOf i + 1).toNat)
  case atStart => exact ⟨0, Nat.zero_le _, by simp, World.ownsRow_made w #[] 0 (Nat.le_refl _) (Nat.zero_le _) rfl, (Below.refl _ _).alloc (Nat.le_refl _) _⟩
  case round =>
    obtain ⟨m, hm, rfl, hown, hB⟩ := hrel
    have hsh : ∃ B cap, u5 = .slice B m cap := by
      rcases hown.2 with ⟨rfl, e⟩ | ⟨g, cap, cur, rfl, _⟩
      · exact ⟨_, _, by rw [e]⟩
      · exact ⟨_, _, rfl⟩
    obtain ⟨B, cap, rfl⟩ := hsh
    have HOWN := Lib.hid hown
    have HB := Lib.hid hB
    have hsz := hB.size
    clear hown hB
    by_cases hlt : m < k
    · go_wp2_with (at_builtin; refine wpList_append_own _ rfl (.tmp 14) (.tmp 20) 61 rfl w.heap.size 5 i0 _ 1 1 Try.underlying61 hi0 hz0 hz1 hz2 rfl (by omega) (.slice B m cap) m (cellsB ((numL n.toNat k).take m)) rfl (HOWN.out.alloc _) ⟨wr.heap.size, 0, none⟩ 1 1 [.int .u8 (n / 2 ^ (8 * (k - 1 - m)) % 256)] rfl rfl (one_cell_new wr _ _) (by simp [Value.oneCell']) (by unfold maxLen; omega) (by omega) (by simp; omega) ?_; intro v2 w2 hown2 hg2 _; rw [num_next h0 hlt] at hown2; have HOWN2 := Lib.hid hown2; have HB2 := Lib.hid ((HB.out.alloc HB.out.size _).grown hg2 (by simp; omega) (fun b e => (HOWN.out.lt b e).1)); clear hown2 hg2)
      go_roundw
      case rel => exact ⟨m + 1, by omega, by go_num, HOWN2.out, HB2.out⟩
      case measure => simp [intOf]; omega
    · obtain rfl : m = k := by omega
      have hown := HOWN.out
      have htk : (numL n.toNat m).take m = numL n.toNat m := List.take_of_length_le (by rw [numL_len]; exact Nat.le_refl _)
      rw [htk] at hown
      rcases hown.2 with ⟨e, e2⟩ | ⟨g, cap2, cur, e, _⟩
      · omega
      · injection e with e e2 e3
        subst e e3
        have hc := own_conv hown (numL_len _ _)
        clear hown htk
        go_wp2
        go_ret
        exact ⟨rfl, HB.out⟩
end Go.Proofs.Ytbdgmddlghhkjaa
