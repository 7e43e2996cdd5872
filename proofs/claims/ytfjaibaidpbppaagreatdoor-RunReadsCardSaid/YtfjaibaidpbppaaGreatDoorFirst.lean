/-
  A region that draws its order, whose operations read, and whose calls make memory but keep a condition S on the world: one walk in the order of the text serves every order. No program is named here. Plain words of disks: fates, texts filled up, noughts. No program is named here. Plain words of sectors: numbers as bytes, pieces, how they stand as 64 bytes, and how these are read. No program is named here. A region that draws its order: an operation, or a call, that yields one value in every world and leaves the world as it is, may be taken first, whatever the others do. No program is named here.
-/
import Derived.Deep.QuietTactic
import Derived.BigQuiet
import Derived.Below
import Derived.WalkSpells
import Derived.Laws.BitsLemmas
import Derived.Laws.BitsAllLaws
import Derived.Laws.BytesArg
import Derived.WalkKit
import Derived.WalkLawsBesides
import Derived.Lib.Hide
namespace Go.Proofs.YtfjaibaidpbppaaGreatDoor
open Go.RowKit

/-- A world that meets S. -/
structure HeldW (S : World → Prop) where
  w : World
  ok : S w

variable {P : Program} {S : World → Prop}

theorem wp_region_kept {id : Nat} {Q : Exit → Act → World → Prop} {a : Act} {w : World} {l : List Oper} (S : World → Prop) (hm : P.follows .mixedOrders = true) (hB : Region.lexB .any l.toArray = true) (hS : S w.drew)
    (h : Nonempty (HeldW S) → wpQuiet P l.toArray (fun w' => ∃ x : HeldW S, w' = x.w) (fun a' => ∀ w', (∃ x : HeldW S, w' = x.w) → Q .normal a' w') l a) : (Code.region id l.toArray true).wp P Q a w :=
  wp_region_quiet (C := fun w' => ∃ x : HeldW S, w' = x.w) hm hB ⟨⟨_, hS⟩, rfl⟩ (by simpa using h ⟨⟨_, hS⟩⟩)

theorem kept_of {f : FuncId} {args : Array Value} {x : HeldW S} {v : Value} (keep : ∀ w w', S w → Below w.heap.size w w' → S w')
    (h : Calls P f args x.w fun e w' => e = .returned v ∧ Below x.w.heap.size x.w w') : Calls P f args x.w fun e w'' => e = .returned v ∧ ∃ y : HeldW S, w'' = y.w :=
  h.mono fun _ w' ⟨he, hb⟩ => ⟨he, ⟨w', keep _ _ x.ok hb⟩, rfl⟩

theorem kept_same {f : FuncId} {args : Array Value} {x : HeldW S} {v : Value}
    (h : Calls P f args x.w fun e w' => e = .returned v ∧ x.w = w') : Calls P f args x.w fun e w'' => e = .returned v ∧ ∃ y : HeldW S, w'' = y.w :=
  h.mono fun _ _ ⟨he, hb⟩ => ⟨he, x, hb.symm⟩

theorem kept_end {K : World → Prop} (h : ∀ w, S w → K w) : ∀ w', (∃ x : HeldW S, w' = x.w) → K w' := by
  rintro _ ⟨x, rfl⟩
  exact h _ x.ok

/-- These cells hold these values, E holds, and all that was there at w is as it was. -/
def HoldS (w : World) (cs : List (Addr × Value)) (E : World → Prop) (W : World) : Prop := (∀ x ∈ cs, W.cell? x.1 = some x.2) ∧ E W ∧ Below w.heap.size w W
theorem HoldS.keep {w : World} {cs : List (Addr × Value)} {E : World → Prop} (hE : ∀ v v', E v → Below v.heap.size v v' → E v') : ∀ v v', HoldS w cs E v → Below v.heap.size v v' → HoldS w cs E v' :=
  fun _ _ ⟨a, b, c⟩ hb => ⟨fun x hx => cell_later hb (a x hx), hE _ _ b hb, c.trans (hb.mono c.size)⟩
theorem keepTrue : ∀ v v' : World, True → Below v.heap.size v v' → True := fun _ _ h _ => h

theorem cc {W : World} {a : Addr} {v : Value} {r : List (Addr × Value)} (h : W.cell? a = some v) (t : ∀ x ∈ r, W.cell? x.1 = some x.2) : ∀ x ∈ (a, v) :: r, W.cell? x.1 = some x.2 := List.forall_mem_cons.2 ⟨h, t⟩
theorem cn {W : World} : ∀ x ∈ ([] : List (Addr × Value)), W.cell? x.1 = some x.2 := fun _ h => absurd h List.not_mem_nil
theorem HeldW.at_ {w : World} {cs : List (Addr × Value)} {E : World → Prop} (x : HeldW (HoldS w cs E)) {a : Addr} {v : Value} (k : Nat) (h : cs[k]? = some (a, v)) : x.w.cell? a = some v := x.ok.1 (a, v) (List.mem_of_getElem? h)

end Go.Proofs.YtfjaibaidpbppaaGreatDoor

namespace Go.Proofs.YtfjaibaidpbppaaGreatDoor
open Go.RowKit

/-- How many bytes of the i-th write are kept. -/
def fateC (bits i : Int) : Int := bits / 2 ^ (3 * (i % 21)).toNat % 8
def fateV (bits i : Int) : Int :=
  if i < 0 then 0 else if fateC bits i % 2 = 0 then 0 else if fateC bits i = 1 then 64 else 16 * ((fateC bits i - 1) / 2)

theorem fateC_range (bits i : Int) : 0 ≤ fateC bits i ∧ fateC bits i < 8 := by unfold fateC; omega
theorem fateV_cases (bits i : Int) : fateV bits i = 0 ∨ fateV bits i = 16 ∨ fateV bits i = 32 ∨ fateV bits i = 48 ∨ fateV bits i = 64 := by
  have := fateC_range bits i
  unfold fateV
  split
  · omega
  · split
    · omega
    · split <;> omega
theorem fateV_range (bits i : Int) : 0 ≤ fateV bits i ∧ fateV bits i ≤ 64 := by rcases fateV_cases bits i with h | h | h | h | h <;> omega

/-- A text with k dots more. -/
def padN (s : ByteArray) : Nat → ByteArray
  | 0 => s
  | k + 1 => padN s k ++ ⟨#[46]⟩
theorem padN_size (s : ByteArray) : ∀ k, (padN s k).size = s.size + k
  | 0 => rfl
  | k + 1 => by
    unfold padN
    rw [ByteArray.size_append, padN_size s k]
    rfl
/-- A text of 64 bytes. -/
def fillB (s : ByteArray) : ByteArray := (padN s (64 - s.size)).extract 0 64
theorem fillB_size (s : ByteArray) : (fillB s).size = 64 := by
  unfold fillB
  rw [ByteArray.size_extract, padN_size]
  omega
/-- k noughts. -/
def zeroB (k : Nat) : ByteArray := strOfNums (List.replicate k 0)
theorem zeroB_size (k : Nat) : (zeroB k).size = k := by unfold zeroB; rw [strOfNums_size]; simp

theorem i64_and7 (n : Int) : bits .and .i64 n 7 = n % 8 := by
  have h7 : (BitVec.ofInt 64 7).toNat = 2 ^ 3 - 1 := by decide
  have key : (BitVec.ofInt 64 n &&& BitVec.ofInt 64 7).toNat = (n % ((2 ^ 64 : Nat) : Int)).toNat % 2 ^ 3 := by
    rw [BitVec.toNat_and, BitVec.toNat_ofInt, h7, Nat.and_two_pow_sub_one_eq_mod]
  show IntKind.i64.wrap ((BitVec.ofInt 64 n &&& BitVec.ofInt 64 7).toNat : Nat) = n % 8
  rw [key, IntKind.wrap_i64]
  omega
theorem fate_and (b i : Int) : bits .and .i64 (wrap64 (b / 2 ^ (3 * (i % 21)).toNat)) 7 = fateC b i := by
  rw [i64_and7]
  unfold fateC wrap64
  omega

end Go.Proofs.YtfjaibaidpbppaaGreatDoor

namespace Go.Proofs.YtfjaibaidpbppaaGreatDoor

/-- A text's bytes; a text of bytes. -/
def bl (s : ByteArray) : List UInt8 := s.data.toList
def ofL (l : List UInt8) : ByteArray := ⟨l.toArray⟩
theorem bl_ofL (l : List UInt8) : bl (ofL l) = l := rfl
theorem ofL_bl (s : ByteArray) : ofL (bl s) = s := by
  apply ByteArray.ext
  simp [ofL, bl]
theorem bl_inj {s t : ByteArray} (h : bl s = bl t) : s = t := by rw [← ofL_bl s, ← ofL_bl t, h]
theorem bl_len (s : ByteArray) : (bl s).length = s.size := by simp [bl]
theorem bl_append (s t : ByteArray) : bl (s ++ t) = bl s ++ bl t := by simp [bl]
theorem bl_extract (s : ByteArray) (i j : Nat) : bl (s.extract i j) = ((bl s).take j).drop i := by
  simp [bl, List.extract_eq_take_drop, List.drop_take]
theorem ofL_size (l : List UInt8) : (ofL l).size = l.length := by simp [ofL, ByteArray.size]

/-- So many of a list's, from a place on. -/
def mid {α : Type} (l : List α) (i k : Nat) : List α := (l.drop i).take k
theorem mid_right {α : Type} (a b : List α) {i k : Nat} (h : a.length ≤ i) : mid (a ++ b) i k = mid b (i - a.length) k := by
  unfold mid
  rw [List.drop_append, List.drop_eq_nil_of_le h, List.nil_append]
theorem mid_left {α : Type} (a b : List α) {i k : Nat} (h : i + k ≤ a.length) : mid (a ++ b) i k = mid a i k := by
  unfold mid
  rw [List.drop_append_of_le_length (by omega), List.take_append_of_le_length (by rw [List.length_drop]; omega)]
theorem mid_all {α : Type} (a : List α) {k : Nat} (h : a.length = k) : mid a 0 k = a := by
  unfold mid
  rw [List.drop_zero, ← h, List.take_length]
theorem mid_here {α : Type} (a b : List α) {k : Nat} (h : a.length = k) : mid (a ++ b) 0 k = a := by
  rw [mid_left a b (by omega), mid_all a h]
theorem bl_mid (s : ByteArray) (i k : Nat) : bl (s.extract i (i + k)) = mid (bl s) i k := by
  rw [bl_extract, mid, List.drop_take]
  congr 1
  omega

/-- The lowest k bytes of a number, the highest first; the number of bytes. -/
def numL (n : Nat) : Nat → List UInt8
  | 0 => []
  | k + 1 => UInt8.ofNat (n / 256 ^ k) :: numL n k
def valL (l : List UInt8) : Nat := l.foldl (fun a b => 256 * a + b.toNat) 0
theorem numL_len (n : Nat) : ∀ k, (numL n k).length = k
  | 0 => rfl
  | k + 1 => by rw [numL, List.length_cons, numL_len n k]
theorem val_from (l : List UInt8) : ∀ a : Nat, l.foldl (fun a b => 256 * a + b.toNat) a = a * 256 ^ l.length + valL l := by
  unfold valL
  induction l with
  | nil => intro a; simp
  | cons b l ih =>
    intro a
    rw [List.foldl_cons, List.foldl_cons, ih, ih (256 * 0 + b.toNat), List.length_cons, Nat.pow_succ]
    have : (256 * a + b.toNat) * 256 ^ l.length = a * (256 ^ l.length * 256) + (256 * 0 + b.toNat) * 256 ^ l.length := by
      rw [Nat.add_mul, Nat.mul_zero, Nat.zero_add, Nat.mul_comm 256 a, Nat.mul_assoc, Nat.mul_comm 256 (256 ^ l.length)]
    omega
theorem valL_cons (b : UInt8) (l : List UInt8) : valL (b :: l) = b.toNat * 256 ^ l.length + valL l := by
  show l.foldl _ (256 * 0 + b.toNat) = _
  rw [val_from]
  congr 1
  simp
theorem valL_lt : ∀ l : List UInt8, valL l < 256 ^ l.length
  | [] => by simp [valL]
  | b :: l => by
    rw [valL_cons, List.length_cons, Nat.pow_succ]
    have h1 := valL_lt l
    have h2 := b.toNat_lt
    have h3 : b.toNat * 256 ^ l.length ≤ 255 * 256 ^ l.length := Nat.mul_le_mul_right _ (by omega)
    omega
theorem valL_numL (n : Nat) : ∀ k, valL (numL n k) = n % 256 ^ k
  | 0 => by simp [numL, valL, Nat.mod_one]
  | k + 1 => by
    rw [numL, valL_cons, numL_len, valL_numL n k]
    have e : (UInt8.ofNat (n / 256 ^ k)).toNat = n / 256 ^ k % 256 := by simp
    rw [e, Nat.pow_succ]
    have h := Nat.mod_mul (a := 256 ^ k) (b := 256) (x := n)
    rw [h, Nat.mul_comm (256 ^ k)]
    omega
theorem numL_inj {n m k : Nat} (h : numL n k = numL m k) (hn : n < 256 ^ k) (hm : m < 256 ^ k) : n = m := by
  have := congrArg valL h
  rw [valL_numL, valL_numL, Nat.mod_eq_of_lt hn, Nat.mod_eq_of_lt hm] at this
  exact this

def numB (n : Int) (k : Nat) : ByteArray := ofL (numL n.toNat k)
def valB (s : ByteArray) : Int := valL (bl s)
theorem numB_size (n : Int) (k : Nat) : (numB n k).size = k := by rw [numB, ofL_size, numL_len]
theorem valB_range {s : ByteArray} {k : Nat} (h : s.size = k) : 0 ≤ valB s ∧ valB s < ((256 ^ k : Nat) : Int) := by
  have := valL_lt (bl s)
  rw [bl_len, h] at this
  unfold valB
  omega

/-- A piece. -/
structure Pc where
  stamp : Int
  gen : Int
  no : Int
  idx : Int
  tot : Int
  data : ByteArray
def noPc : Pc := ⟨0, 0, 0, 0, 0, ⟨#[]⟩⟩
/-- Its numbers are such as the types hold. -/
structure Pc.Fits (p : Pc) : Prop where
  s0 : 0 ≤ p.stamp
  s1 : p.stamp < 18446744073709551616
/-- May it be? -/
def rightP (p : Pc) : Bool := decide (0 ≤ p.gen) && decide (p.gen < 2147483648) && decide (0 ≤ p.no) && decide (p.no < 65536) && decide (1 ≤ p.tot) && decide (p.tot < 65536) && decide (0 ≤ p.idx) && decide (p.idx < p.tot) && decide (p.data.size ≤ 37)
structure Pc.Ok (p : Pc) : Prop where
  g0 : 0 ≤ p.gen
  g1 : p.gen < 2147483648
  n0 : 0 ≤ p.no
  n1 : p.no < 65536
  t0 : 1 ≤ p.tot
  t1 : p.tot < 65536
  i0 : 0 ≤ p.idx
  i1 : p.idx < p.tot
  d : p.data.size ≤ 37
theorem rightP_iff (p : Pc) : rightP p = true ↔ p.Ok := by
  simp only [rightP, Bool.and_eq_true, decide_eq_true_eq]
  constructor
  · rintro ⟨⟨⟨⟨⟨⟨⟨⟨a, b⟩, c⟩, d⟩, e⟩, f⟩, g⟩, h⟩, i⟩
    exact ⟨a, b, c, d, e, f, g, h, i⟩
  · intro h
    exact ⟨⟨⟨⟨⟨⟨⟨⟨h.g0, h.g1⟩, h.n0⟩, h.n1⟩, h.t0⟩, h.t1⟩, h.i0⟩, h.i1⟩, h.d⟩

/-- Its sector. -/
def printB (p : Pc) : ByteArray := numB p.stamp 8 ++ numB p.gen 4 ++ numB p.no 2 ++ numB p.idx 2 ++ numB p.tot 2 ++ numB p.data.size 1 ++ p.data ++ zeroB (37 - p.data.size) ++ numB p.stamp 8
def printL (p : Pc) : List UInt8 := numL p.stamp.toNat 8 ++ (numL p.gen.toNat 4 ++ (numL p.no.toNat 2 ++ (numL p.idx.toNat 2 ++ (numL p.tot.toNat 2 ++ (numL p.data.size 1 ++ (bl p.data ++ (bl (zeroB (37 - p.data.size)) ++ numL p.stamp.toNat 8)))))))
theorem bl_print (p : Pc) : bl (printB p) = printL p := by
  simp only [printB, printL, bl_append, numB, bl_ofL, List.append_assoc, Int.toNat_natCast]
theorem print_size {p : Pc} (h : p.data.size ≤ 37) : (printB p).size = 64 := by
  simp only [printB, ByteArray.size_append, numB_size, zeroB_size]
  omega
theorem printL_len {p : Pc} (h : p.data.size ≤ 37) : (printL p).length = 64 := by rw [← bl_print, bl_len, print_size h]
/-- Both ends of a sector are its stamp. -/
theorem print_ends {p : Pc} (h : p.data.size ≤ 37) : (printL p).take 8 = numL p.stamp.toNat 8 ∧ (printL p).drop 56 = numL p.stamp.toNat 8 := by
  constructor
  · exact mid_here _ _ (numL_len _ 8)
  · have hz : (bl p.data).length = p.data.size := bl_len _
    have hzz : (bl (zeroB (37 - p.data.size))).length = 37 - p.data.size := by rw [bl_len, zeroB_size]
    unfold printL
    simp only [List.drop_append, numL_len, hz, hzz, List.drop_eq_nil_of_le, List.nil_append, show 8 ≤ 56 from by omega, show 4 ≤ 56 - 8 from by omega, show 2 ≤ 56 - 8 - 4 from by omega, show 2 ≤ 56 - 8 - 4 - 2 from by omega, show 2 ≤ 56 - 8 - 4 - 2 - 2 from by omega, show 1 ≤ 56 - 8 - 4 - 2 - 2 - 2 from by omega]
    rw [List.drop_eq_nil_of_le (by rw [hz]; omega), List.drop_eq_nil_of_le (by rw [hzz]; omega)]
    simp only [List.nil_append]
    rw [show 56 - 8 - 4 - 2 - 2 - 2 - 1 - p.data.size - (37 - p.data.size) = 0 by omega, List.drop_zero]

/-- What 64 bytes say. -/
def cutP (s : ByteArray) : Pc := ⟨valB (s.extract 0 8), valB (s.extract 8 12), valB (s.extract 12 14), valB (s.extract 14 16), valB (s.extract 16 18), s.extract 19 (19 + (valB (s.extract 18 19)).toNat)⟩
/-- The piece whose sector it is. -/
def readP (s : ByteArray) : Option Pc := if s.size = 64 ∧ valB (s.extract 18 19) ≤ 37 ∧ rightP (cutP s) = true ∧ printB (cutP s) = s then some (cutP s) else none
theorem readP_some {s : ByteArray} {p : Pc} (h : readP s = some p) : s.size = 64 ∧ p = cutP s ∧ rightP p = true ∧ printB p = s := by
  unfold readP at h
  split at h
  · rename_i hc
    obtain rfl := Option.some.inj h
    exact ⟨hc.1, rfl, hc.2.2.1, hc.2.2.2⟩
  · cases h
theorem cut_print {p : Pc} (h : p.Ok) (hf : p.Fits) : cutP (printB p) = p ∧ valB ((printB p).extract 18 19) = p.data.size := by
  have hz : (bl p.data).length = p.data.size := bl_len _
  have hzz : (bl (zeroB (37 - p.data.size))).length = 37 - p.data.size := by rw [bl_len, zeroB_size]
  have hd := h.d
  have m0 : mid (printL p) 0 8 = numL p.stamp.toNat 8 := mid_here _ _ (numL_len _ 8)
  have m1 : mid (printL p) 8 4 = numL p.gen.toNat 4 := by
    unfold printL
    rw [mid_right _ _ (by rw [numL_len]; omega), numL_len]
    exact mid_here _ _ (numL_len _ 4)
  have m2 : mid (printL p) 12 2 = numL p.no.toNat 2 := by
    unfold printL
    rw [mid_right _ _ (by rw [numL_len]; omega), numL_len, mid_right _ _ (by rw [numL_len]; omega), numL_len]
    exact mid_here _ _ (numL_len _ 2)
  have m3 : mid (printL p) 14 2 = numL p.idx.toNat 2 := by
    unfold printL
    rw [mid_right _ _ (by rw [numL_len]; omega), numL_len, mid_right _ _ (by rw [numL_len]; omega), numL_len, mid_right _ _ (by rw [numL_len]; omega), numL_len]
    exact mid_here _ _ (numL_len _ 2)
  have m4 : mid (printL p) 16 2 = numL p.tot.toNat 2 := by
    unfold printL
    rw [mid_right _ _ (by rw [numL_len]; omega), numL_len, mid_right _ _ (by rw [numL_len]; omega), numL_len, mid_right _ _ (by rw [numL_len]; omega), numL_len, mid_right _ _ (by rw [numL_len]; omega), numL_len]
    exact mid_here _ _ (numL_len _ 2)
  have m5 : mid (printL p) 18 1 = numL p.data.size 1 := by
    unfold printL
    rw [mid_right _ _ (by rw [numL_len]; omega), numL_len, mid_right _ _ (by rw [numL_len]; omega), numL_len, mid_right _ _ (by rw [numL_len]; omega), numL_len, mid_right _ _ (by rw [numL_len]; omega), numL_len, mid_right _ _ (by rw [numL_len]; omega), numL_len]
    exact mid_here _ _ (numL_len _ 1)
  have m6 : mid (printL p) 19 p.data.size = bl p.data := by
    unfold printL
    rw [mid_right _ _ (by rw [numL_len]; omega), numL_len, mid_right _ _ (by rw [numL_len]; omega), numL_len, mid_right _ _ (by rw [numL_len]; omega), numL_len, mid_right _ _ (by rw [numL_len]; omega), numL_len, mid_right _ _ (by rw [numL_len]; omega), numL_len, mid_right _ _ (by rw [numL_len]; omega), numL_len]
    exact mid_here _ _ hz
  have v : ∀ i j k (n : Nat), j = i + k → mid (printL p) i k = numL n k → n < 256 ^ k → valB ((printB p).extract i j) = n := by
    intro i j k n hj hm hn
    subst hj
    rw [valB, bl_mid, bl_print, hm, valL_numL, Nat.mod_eq_of_lt hn]
  have v5 : valB ((printB p).extract 18 19) = p.data.size := v 18 19 1 _ rfl m5 (by omega)
  refine ⟨?_, v5⟩
  have b1 := h.g0
  have b2 := h.g1
  have b3 := h.n0
  have b4 := h.n1
  have b5 := h.t0
  have b6 := h.t1
  have b7 := h.i0
  have b8 := h.i1
  have b9 := hf.s0
  have b10 := hf.s1
  unfold cutP
  rw [v5, v 0 8 8 _ rfl m0 (by omega), v 8 12 4 _ rfl m1 (by omega), v 12 14 2 _ rfl m2 (by omega), v 14 16 2 _ rfl m3 (by omega), v 16 18 2 _ rfl m4 (by omega)]
  have e : (printB p).extract 19 (19 + ((p.data.size : Nat) : Int).toNat) = p.data := by
    apply bl_inj
    rw [Int.toNat_natCast, bl_mid, bl_print, m6]
  rw [e]
  obtain ⟨a, b, c, d, f, g⟩ := p
  simp only [Pc.mk.injEq, and_true]
  simp only at b1 b3 b5 b7 b9
  omega
/-- What is printed is read as it was. -/
theorem read_print {p : Pc} (h : p.Ok) (hf : p.Fits) : readP (printB p) = some p := by
  obtain ⟨h1, h2⟩ := cut_print h hf
  have hd := h.d
  unfold readP
  rw [h1, h2, if_pos ⟨print_size h.d, by omega, (rightP_iff p).2 h, rfl⟩]
theorem print_inj {p q : Pc} (h : p.Ok) (hf : p.Fits) (k : q.Ok) (kf : q.Fits) (e : printB p = printB q) : p = q := by
  have h1 := read_print h hf
  rw [e, read_print k kf] at h1
  exact (Option.some.inj h1).symm

/-- Both ends of what is read are alike. -/
theorem read_ends {s : ByteArray} {p : Pc} (h : readP s = some p) : (bl s).take 8 = (bl s).drop 56 := by
  obtain ⟨_, _, hr, rfl⟩ := readP_some h
  rw [bl_print, (print_ends ((rightP_iff p).1 hr).d).1, (print_ends ((rightP_iff p).1 hr).d).2]
/-- A TORN SECTOR IS NONE. -/
theorem torn_none {a b : Pc} (ha : a.Ok) (fa : a.Fits) (hb : b.Ok) (fb : b.Fits) (hne : a.stamp ≠ b.stamp) {c : Nat} (h8 : 8 ≤ c) (h56 : c ≤ 56) : readP ((printB a).extract 0 c ++ (printB b).extract c 64) = none := by
  cases h : readP ((printB a).extract 0 c ++ (printB b).extract c 64) with
  | none => rfl
  | some p =>
    have he := read_ends h
    have la := printL_len ha.d
    have lb := printL_len hb.d
    rw [bl_append, bl_extract, bl_extract, bl_print, bl_print, List.drop_zero] at he
    rw [List.take_append_of_le_length (by rw [List.length_take]; omega), List.take_take, show min 8 c = 8 by omega, (print_ends ha.d).1] at he
    rw [List.drop_append, List.drop_eq_nil_of_le (by rw [List.length_take]; omega), List.nil_append, List.length_take, List.drop_drop, show c + (56 - min c (printL a).length) = 56 by omega, List.take_of_length_le (by omega), (print_ends hb.d).2] at he
    have h1 := fa.s0
    have h2 := fa.s1
    have h3 := fb.s0
    have h4 := fb.s1
    have := numL_inj he (by omega) (by omega)
    omega
end Go.Proofs.YtfjaibaidpbppaaGreatDoor

namespace Go.Proofs.YtfjaibaidpbppaaGreatDoor
open Go.RowKit

section
variable {P : Program} {ops : Array Oper} {md : Region.Mode} {Q : Exit → Act → World → Prop}

/-- It yields v in every world, and leaves each as it is. -/
def Still (P : Program) (o : Oper) (v : Value) (a : Act) : Prop := ∀ w, o.quietAt P a (fun w' => w' = w) w v

theorem still_runs {i : Nat} {o : Oper} {v : Value} {a : Act} {w : World} {K : Act → World → Prop} (hi : ops[i]? = some o) (hg : o.guard = none) (hs : Still P o v a) (h : K (a.put o.dst v) w) : wpOp P ops Q i K a w := by
  have hq : qOp P ops (fun w' => w' = w) i (fun a' => a' = a.put o.dst v) a := by
    unfold qOp
    rw [hi]
    simp only
    rw [if_pos (by simp [Region.wanted, hg])]
    exact ⟨v, fun w' e => by rw [e]; exact hs w, rfl⟩
  exact wpOp_of_qOp (C := fun w' => w' = w) rfl (fun a' w' hw ha => by rw [hw, ha]; exact h) hq

/-- Another operation, with the value there already, or not yet: G is what the put of its own value doesn't touch. -/
theorem other_runs {j : Nat} {oj : Oper} {d : Tmp} {v : Value} {G : Act → Prop} {K : Act → World → Prop} {a : Act} {w : World} (hj : ops[j]? = some oj) (hg : oj.guard = none) (h1 : d ∉ oj.looksAt ops) (h2 : oj.dst ≠ some d) (hs : ∀ cs b, oj.op ≠ .select cs b)
    (keep : ∀ a u, G a → G (a.put oj.dst u)) (keepD : ∀ a x, G a → G { a with defers := x :: a.defers }) (hQ : ∀ c a w, Q (.panic c) (a.put (some d) v) w → Q (.panic c) a w) (ha : G a)
    (h : wpOp P ops Q j K (a.put (some d) v) w) : wpOp P ops Q j (fun a' w' => G a' ∧ K (a'.put (some d) v) w') a w := by
  have hw : ∀ a : Act, Region.wanted oj (yielded ops a.tmps) = true := fun a => by simp [Region.wanted, hg]
  have e := execOp_put (ops := ops) oj hs a (some d) v (fun d' e => by injection e with e; rw [← e]; exact h1)
  have hc : ∀ (b : Act) (u : Value), (b.put (some d) v).put oj.dst u = (b.put oj.dst u).put (some d) v := fun b u => Act.put_comm b v u (fun d' e => by injection e with e; rw [← e]; exact h2)
  unfold wpOp at h ⊢
  simp only [hj, hw, if_true] at h ⊢
  rcases h with h | ⟨hk, hl⟩
  · left
    unfold Oper.wp at h ⊢
    rw [e] at h
    cases hr : (execOp a.eval oj).run P w with
    | ok n w' =>
      rw [hr] at h
      cases n <;> simp only [Oper.upon] at h ⊢
      case value u => exact ⟨keep _ _ ha, by rw [← hc]; exact h⟩
      case skip => exact ⟨keep _ _ ha, by rw [← hc]; exact h⟩
      case defer x => exact ⟨keep _ _ (keepD _ x ha), by rw [← hc]; exact h⟩
      case enter f args =>
        refine Calls.mono h fun e w'' he => ?_
        cases e with
        | returned u => exact ⟨keep _ _ ha, by rw [← hc]; exact he⟩
        | panicked c => exact hQ _ _ _ he
        | outgrown => exact he
      case row r args => exact Rows.mono h fun u w'' he => ⟨keep _ _ ha, by rw [← hc]; exact he⟩
    | halt x w' =>
      rw [hr] at h
      cases x <;> simp only [Oper.upon] at h ⊢
      exact hQ _ _ _ h
  · exact .inr ⟨by unfold Oper.asks at hk ⊢; rw [e] at hk; exact hk, hl⟩

def plainB (ops : Array Oper) : Bool := Region.noSelect ops && ops.all fun o => o.guard.isNone
/-- It may be taken first. -/
theorem any_still (hp : plainB ops = true) {i : Nat} {oi : Oper} {d : Tmp} {v : Value} (hi : ops[i]? = some oi) (hd : oi.dst = some d) (hQ : ∀ c a w, Q (.panic c) (a.put (some d) v) w → Q (.panic c) a w) :
    ∀ (f : Nat) (listed : Array Bool) (a : Act) (w : World), Region.free md ops listed i = true → i ∈ Region.ready md ops listed → Still P oi v a →
      wpAny P md ops Q f (listed.setIfInBounds i true) (a.put (some d) v) w → wpAny P md ops Q (f + 1) listed a w := by
  have hsel : Region.noSelect ops = true := by simp only [plainB, Bool.and_eq_true] at hp; exact hp.1
  have hgd : ∀ {j : Nat} {o : Oper}, ops[j]? = some o → o.guard = none := fun {j o} h => by
    simp only [plainB, Bool.and_eq_true, Array.all_eq_true_iff_forall_mem] at hp
    have := hp.2 o (Array.mem_of_getElem? h)
    simpa using this
  intro f
  induction f with
  | zero =>
    intro listed a w _ hr hst H
    refine ⟨fun h => (by rw [h] at hr; cases hr), fun j hj => ?_⟩
    by_cases e : j = i
    · rw [e]
      exact still_runs hi (hgd hi) hst (by rw [hd]; exact H)
    · have := ready_mono hj e
      rw [H.1] at this
      cases this
  | succ f ih =>
    intro listed a w hfr hr hst H
    refine ⟨fun h => (by rw [h] at hr; cases hr), fun j hj => ?_⟩
    by_cases e : j = i
    · rw [e]
      exact still_runs hi (hgd hi) hst (by rw [hd]; exact H)
    · obtain ⟨hjun, oj, hoj, hall⟩ := mem_ready.1 hj
      have hiun := (mem_ready.1 hr).1
      have hno : ∀ x ∈ oj.after, Region.binds md x = true → x.on ≠ i := fun x hx hb hon => by
        have h1 := hall x hx hb
        rw [hon] at h1
        rcases Nat.lt_or_ge i listed.size with h' | h'
        · simp [h'] at hiun h1
          rw [hiun] at h1
          cases h1
        · simp [Array.getElem?_eq_none h'] at h1
      have hap := Region.free_spec hi hfr j oj hoj e hjun hno
      obtain ⟨a1, a2, a3⟩ := Oper.apart_spec hap
      have hsi : ∀ cs b, oi.op ≠ .select cs b := fun cs b => Region.noSelect_spec hsel i oi cs b hi
      have keep : ∀ (a : Act) (u : Value), Still P oi v a → Still P oi v (a.put oj.dst u) := fun a u h w => by
        have h1 := h w
        unfold Oper.quietAt at h1 ⊢
        rw [execOp_put (ops := ops) oi hsi a oj.dst u a3]
        exact h1
      have hfr2 : Region.free md ops (listed.setIfInBounds j true) i = true := by
        unfold Region.free at hfr ⊢
        rw [hi] at hfr ⊢
        simp only [List.all_eq_true, List.mem_range] at hfr ⊢
        intro q hq
        have h1 := hfr q hq
        by_cases hqj : j = q
        · subst hqj
          rcases Nat.lt_or_ge j listed.size with h' | h'
          · simp [h']
          · simp [h']
        · rw [getD_set_ne true hqj]
          exact h1
      refine wpOp_mono (fun a' w' h3 => ?_) (other_runs (G := Still P oi v) hoj (hgd hoj) (a1 d hd) (a2 d hd) (fun cs b => Region.noSelect_spec hsel j oj cs b hoj) keep (fun a x h => h) hQ hst (H.2 j (ready_mono hj e)))
      refine ih (listed.setIfInBounds j true) a' w' hfr2 (ready_mono hr (Ne.symm e)) h3.1 ?_
      rw [Array.setIfInBounds_comm _ _ e]
      exact h3.2

/-- The first n of the text's order are taken first, one by one. -/
def stillL (P : Program) : List Oper → Act → (Act → Prop) → Prop
  | [], a, R => R a
  | o :: l, a, R => ∃ v, Still P o v a ∧ stillL P l (a.put o.dst v) R
def firstB (md : Region.Mode) (ops : Array Oper) : Nat → Nat → Array Bool → Bool
  | 0, _, _ => true
  | f + 1, q, listed => (Region.ready md ops listed).contains q && Region.free md ops listed q && ((ops[q]?).bind (·.dst)).isSome && firstB md ops f (q + 1) (listed.setIfInBounds q true)
def markL : Nat → Nat → Array Bool → Array Bool
  | 0, _, listed => listed
  | f + 1, q, listed => markL f (q + 1) (listed.setIfInBounds q true)
theorem any_stills (hp : plainB ops = true) (hQ : ∀ c d v a w, Q (.panic c) (a.put (some d) v) w → Q (.panic c) a w) (m : Nat) : ∀ (l : List Oper) (q : Nat) (listed : Array Bool) (a : Act) (w : World), (∀ j, j < l.length → l[j]? = ops[q + j]?) →
    firstB md ops l.length q listed = true → stillL P l a (fun a' => wpAny P md ops Q m (markL l.length q listed) a' w) → wpAny P md ops Q (l.length + m) listed a w
  | [], q, listed, a, w, _, _, h => by rw [List.length_nil, Nat.zero_add]; exact h
  | o :: l, q, listed, a, w, hl, hB, h => by
    have h0 : ops[q]? = some o := by simpa using (hl 0 (by simp)).symm
    simp only [List.length_cons, firstB, Bool.and_eq_true, h0] at hB
    obtain ⟨⟨⟨hr, hf⟩, hd⟩, hB'⟩ := hB
    obtain ⟨v, hst, h'⟩ := h
    cases hdd : o.dst with
    | none => simp [hdd] at hd
    | some d =>
      rw [hdd] at h'
      have ih := any_stills hp hQ m l (q + 1) (listed.setIfInBounds q true) (a.put (some d) v) w (fun j hj => by have := hl (j + 1) (by simp; omega); simpa [Nat.add_assoc, Nat.add_comm 1 j] using this) hB' h'
      rw [List.length_cons, show l.length + 1 + m = (l.length + m) + 1 by omega]
      exact any_still hp h0 hdd (fun c a w => hQ c d v a w) (l.length + m) listed a w hf (by simpa using hr) hst ih
/-- THE BEGINNING. -/
theorem wp_region_first {id : Nat} {a : Act} {w : World} {l : List Oper} (n m : Nat) (hm : P.follows .mixedOrders = true) (hp : plainB l.toArray = true) (hn : l.length = n + m) (hB : firstB .any l.toArray n 0 (Array.replicate l.length false) = true)
    (hQ : ∀ c d v a w, Q (.panic c) (a.put (some d) v) w → Q (.panic c) a w)
    (h : stillL P (l.take n) a (fun a' => wpAny P .any l.toArray Q m (markL n 0 (Array.replicate l.length false)) a' w.drew)) : (Code.region id l.toArray true).wp P Q a w := by
  refine wp_region_any hm ?_
  have hl : (l.take n).length = n := by rw [List.length_take]; omega
  have := any_stills (P := P) (md := .any) hp hQ m (l.take n) 0 (Array.replicate l.length false) a w.drew (fun j hj => by rw [hl] at hj; simp [hj]) (by rw [hl]; exact hB) (by rw [hl]; exact h)
  rw [hl, ← hn] at this
  simpa using this
theorem stillL_val {o : Oper} {l : List Oper} {a : Act} {R : Act → Prop} (v : Value) (h : ∀ w, (execOp a.eval o).run P w = .ok (.value v) w) (k : stillL P l (a.put o.dst v) R) : stillL P (o :: l) a R :=
  ⟨v, fun w => by unfold Oper.quietAt; rw [h w]; exact ⟨rfl, rfl⟩, k⟩
theorem stillL_call {o : Oper} {l : List Oper} {a : Act} {R : Act → Prop} (v : Value) (f : FuncId) (args : Array Value) (h : ∀ w, (execOp a.eval o).run P w = .ok (.enter f args) w) (hc : ∀ w, Calls P f args w fun e w' => e = .returned v ∧ w = w') (k : stillL P l (a.put o.dst v) R) : stillL P (o :: l) a R :=
  ⟨v, fun w => by unfold Oper.quietAt; rw [h w]; exact ⟨rfl, (hc w).mono fun _ _ ⟨x, y⟩ => ⟨x, y.symm⟩⟩, k⟩
end
end Go.Proofs.YtfjaibaidpbppaaGreatDoor
