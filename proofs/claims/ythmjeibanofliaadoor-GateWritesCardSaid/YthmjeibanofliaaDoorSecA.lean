/-
  What the document's words for sectors (package lockageref04) answer: Right, Count, number, value. No conditions but the numbers' types.
-/
import Derived.Test.YthmjeibanofliaaDoorProg
import Derived.Test.YthmjeibanofliaaDoorSecQ
import Derived.WalkKit
import Derived.WalkSpells
import Derived.OwnWalk
import Derived.Laws.OwnMore
import Derived.Laws.MakeOwn
import Derived.Outline
namespace Go.Proofs.YthmjeibanofliaaDoor
open Go.RowKit

theorem ret_bool {a b : Bool} (h : a = b) : Ending.returned (.bool a) = .returned (.bool b) := by rw [h]
theorem ret_int {k : IntKind} {a b : Int} (h : a = b) : Ending.returned (.int k a) = .returned (.int k b) := by rw [h]
theorem ret_str {a b : ByteArray} (h : a = b) : Ending.returned (.string a) = .returned (.string b) := by rw [h]

/-- A piece, as a value. -/
def pcC (p : Pc) : Array Value := #[.int .u64 p.stamp, .int .i64 p.gen, .int .i64 p.no, .int .i64 p.idx, .int .i64 p.tot, .string p.data]

theorem info_byte3 : (Tryd.prog.info? 5).map (fun i => (i.zero, i.size, i.bytes)) = some (some (.int .u8 0), 1, 1) := by kernel_rfl
def cellsB (l : List UInt8) : List Value := l.map fun b => .int .u8 b.toNat
theorem cellsB_len (l : List UInt8) : (cellsB l).length = l.length := by simp [cellsB]
theorem valL_snoc (l : List UInt8) (b : UInt8) : valL (l ++ [b]) = 256 * valL l + b.toNat := by simp [valL, List.foldl_append]
theorem val_next (s : ByteArray) {k : Nat} (hk : k < s.size) : valL ((bl s).take (k + 1)) = 256 * valL ((bl s).take k) + s[k].toNat := by
  have hl : k < (bl s).length := by rw [bl_len]; exact hk
  rw [List.take_succ_eq_append_getElem hl, valL_snoc]
  rfl
theorem val_wrap (s : ByteArray) {k : Nat} (hk : k < s.size) (h8 : s.size ≤ 8) : IntKind.u64.wrap (IntKind.u64.wrap (256 * (valL ((bl s).take k) : Int)) + IntKind.u64.wrap (s[k].toNat : Int)) = (valL ((bl s).take (k + 1)) : Nat) := by
  have h1 := valL_lt ((bl s).take (k + 1))
  have hl : ((bl s).take (k + 1)).length = k + 1 := by rw [List.length_take, bl_len]; omega
  rw [hl] at h1
  have h2 : 256 ^ (k + 1) ≤ 256 ^ 8 := Nat.pow_le_pow_right (by omega) (by omega)
  rw [val_next s hk] at h1 ⊢
  rw [IntKind.wrap_u64, IntKind.wrap_u64, IntKind.wrap_u64]
  omega

theorem numL_get (n k : Nat) : ∀ {m : Nat}, m < k → (numL n k)[m]? = some (UInt8.ofNat (n / 256 ^ (k - 1 - m))) := by
  induction k with
  | zero => intro m h; omega
  | succ k ih =>
    intro m h
    rw [numL]
    rcases m with _ | m
    · simp
    · rw [List.getElem?_cons_succ, ih (by omega)]
      congr 3
      congr 1
      omega
theorem num_next {n : Int} (h0 : 0 ≤ n) {k m : Nat} (h : m < k) : cellsB ((numL n.toNat k).take m) ++ [.int .u8 (n / 2 ^ (8 * (k - 1 - m)) % 256)] = cellsB ((numL n.toNat k).take (m + 1)) := by
  have hl : m < (numL n.toNat k).length := by rw [numL_len]; exact h
  have hg := numL_get n.toNat k h
  rw [List.getElem?_eq_getElem hl] at hg
  rw [List.take_succ_eq_append_getElem hl, Option.some.inj hg]
  simp only [cellsB, List.map_append, List.map_cons, List.map_nil]
  congr 3
  have e : (UInt8.ofNat (n.toNat / 256 ^ (k - 1 - m))).toNat = n.toNat / 256 ^ (k - 1 - m) % 256 := by simp
  rw [e]
  have e2 : (2 : Int) ^ (8 * (k - 1 - m)) = ((256 ^ (k - 1 - m) : Nat) : Int) := by
    rw [Int.pow_mul]
    simp
  rw [e2]
  have e3 : n = (n.toNat : Int) := by omega
  conv => lhs; rw [e3]
  rw [← Int.natCast_ediv]
  omega
theorem one_cell_new (w : World) (x : Value) (t : TypeId) : ∀ j u, [x][j]? = some u → (w.alloc (.cells #[x] t)).cell? ((⟨w.heap.size, 0, none⟩ : Addr).add j) = some u := by
  intro j u hu
  rcases j with _ | j
  · obtain rfl : x = u := by simpa using hu
    simp [go_sem, Addr.add]
  · simp at hu
theorem strOf_cells (l : List UInt8) : strOfNums (l.map fun b => (b.toNat : Int)) = ofL l := by
  apply ByteArray.ext
  apply Array.ext'
  have : ∀ l : List UInt8, l.map ((fun n : Int => UInt8.ofNat n.toNat) ∘ fun b => (b.toNat : Int)) = l := by
    intro l
    induction l with
    | nil => rfl
    | cons b l ih => simp only [List.map_cons, ih, Function.comp, Int.toNat_natCast, UInt8.ofNat_toNat]
  simp [strOfNums, ofL, this]
/-- A row of the call's own, as a text. -/
theorem own_conv {w : World} {base n : Nat} {g cap : Nat} {l : List UInt8} (h : w.ownsRow base 5 1 (.slice (some ⟨g, 0, none⟩) n cap) n (cellsB l)) (hn : l.length = n) :
    (convert 50 9 (.slice (some ⟨g, 0, none⟩) n cap)).run Tryd.prog w = .ok (.string (ofL l)) w := by
  have := run_convert_bytes_arg w 50 5 Tryd.underlying50 Tryd.underlying5 g 0 n cap (l.map fun b => (b.toNat : Int)) (by simpa using hn) (fun i hi => ?_) 9 Tryd.underlying9
  · rw [strOf_cells] at this
    exact this
  · rw [Nat.zero_add, h.cellAt _ (by omega)]
    simp [cellsB, show i < l.length by omega]

end Go.Proofs.YthmjeibanofliaaDoor
