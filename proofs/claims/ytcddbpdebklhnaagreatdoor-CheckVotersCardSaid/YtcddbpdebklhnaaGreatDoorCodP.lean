/-
  Plain words of disks: fates, texts filled up, noughts. No program is named here. Plain words of sectors: numbers as bytes, pieces, how they stand as 64 bytes, and how these are read. No program is named here. Plain words of sectors, on: a bit that is turned in the stamps; how many sectors a text takes, its pieces, and how they are read. No program is named here. Plain words of texts that are written one behind the other: numbers' digits, numbers' and texts' texts, and what stands at a text's front. No program is named here.
-/
import Derived.Test.YtcddbpdebklhnaaGreatDoorPhaseB
import Derived.Laws.BitsLemmas
import Derived.Laws.BitsAllLaws
import Derived.Laws.BytesArg
import Derived.WalkKit
import Derived.WalkSpells
import Derived.WalkLawsBesides
import Derived.Lib.Hide
namespace Go.Proofs.YtcddbpdebklhnaaGreatDoor
open Go.RowKit

/-- How many bytes of the i-th write are kept. -/
def fateC (bits i : Int) : Int := bits / 2 ^ (3 * (i % 21)).toNat % 8
def fateV (bits i : Int) : Int :=
  if i < 0 then 0 else if fateC bits i % 2 = 0 then 0 else if fateC bits i = 1 then 64 else 16 * ((fateC bits i - 1) / 2)

theorem fateC_range (bits i : Int) : 0 ≤ fateC bits i ∧ fateC bits i < 8 := by unfold fateC; omega
theorem fateV_cases (bits i : Int) : fateV bits i = 0 ∨ fateV bits i = 16 ∨ fateV bits i = 32 ∨ fateV bits i = 48 ∨ fateV bits i = 64 := by
  have := fateC_range bits i
  unfold fateV
  split
  · omega
  · split
    · omega
    · split <;> omega
theorem fateV_range (bits i : Int) : 0 ≤ fateV bits i ∧ fateV bits i ≤ 64 := by rcases fateV_cases bits i with h | h | h | h | h <;> omega

/-- A text with k dots more. -/
def padN (s : ByteArray) : Nat → ByteArray
  | 0 => s
  | k + 1 => padN s k ++ ⟨#[46]⟩
theorem padN_size (s : ByteArray) : ∀ k, (padN s k).size = s.size + k
  | 0 => rfl
  | k + 1 => by
    unfold padN
    rw [ByteArray.size_append, padN_size s k]
    rfl
/-- A text of 64 bytes. -/
def fillB (s : ByteArray) : ByteArray := (padN s (64 - s.size)).extract 0 64
theorem fillB_size (s : ByteArray) : (fillB s).size = 64 := by
  unfold fillB
  rw [ByteArray.size_extract, padN_size]
  omega
/-- k noughts. -/
def zeroB (k : Nat) : ByteArray := strOfNums (List.replicate k 0)
theorem zeroB_size (k : Nat) : (zeroB k).size = k := by unfold zeroB; rw [strOfNums_size]; simp

theorem i64_and7 (n : Int) : bits .and .i64 n 7 = n % 8 := by
  have h7 : (BitVec.ofInt 64 7).toNat = 2 ^ 3 - 1 := by decide
  have key : (BitVec.ofInt 64 n &&& BitVec.ofInt 64 7).toNat = (n % ((2 ^ 64 : Nat) : Int)).toNat % 2 ^ 3 := by
    rw [BitVec.toNat_and, BitVec.toNat_ofInt, h7, Nat.and_two_pow_sub_one_eq_mod]
  show IntKind.i64.wrap ((BitVec.ofInt 64 n &&& BitVec.ofInt 64 7).toNat : Nat) = n % 8
  rw [key, IntKind.wrap_i64]
  omega
theorem fate_and (b i : Int) : bits .and .i64 (wrap64 (b / 2 ^ (3 * (i % 21)).toNat)) 7 = fateC b i := by
  rw [i64_and7]
  unfold fateC wrap64
  omega

end Go.Proofs.YtcddbpdebklhnaaGreatDoor

namespace Go.Proofs.YtcddbpdebklhnaaGreatDoor

/-- A text's bytes; a text of bytes. -/
def bl (s : ByteArray) : List UInt8 := s.data.toList
def ofL (l : List UInt8) : ByteArray := ⟨l.toArray⟩
theorem bl_ofL (l : List UInt8) : bl (ofL l) = l := rfl
theorem ofL_bl (s : ByteArray) : ofL (bl s) = s := by
  apply ByteArray.ext
  simp [ofL, bl]
theorem bl_inj {s t : ByteArray} (h : bl s = bl t) : s = t := by rw [← ofL_bl s, ← ofL_bl t, h]
theorem bl_len (s : ByteArray) : (bl s).length = s.size := by simp [bl]
theorem bl_append (s t : ByteArray) : bl (s ++ t) = bl s ++ bl t := by simp [bl]
theorem bl_extract (s : ByteArray) (i j : Nat) : bl (s.extract i j) = ((bl s).take j).drop i := by
  simp [bl, List.extract_eq_take_drop, List.drop_take]
theorem ofL_size (l : List UInt8) : (ofL l).size = l.length := by simp [ofL, ByteArray.size]

/-- So many of a list's, from a place on. -/
def mid {α : Type} (l : List α) (i k : Nat) : List α := (l.drop i).take k
theorem mid_right {α : Type} (a b : List α) {i k : Nat} (h : a.length ≤ i) : mid (a ++ b) i k = mid b (i - a.length) k := by
  unfold mid
  rw [List.drop_append, List.drop_eq_nil_of_le h, List.nil_append]
theorem mid_left {α : Type} (a b : List α) {i k : Nat} (h : i + k ≤ a.length) : mid (a ++ b) i k = mid a i k := by
  unfold mid
  rw [List.drop_append_of_le_length (by omega), List.take_append_of_le_length (by rw [List.length_drop]; omega)]
theorem mid_all {α : Type} (a : List α) {k : Nat} (h : a.length = k) : mid a 0 k = a := by
  unfold mid
  rw [List.drop_zero, ← h, List.take_length]
theorem mid_here {α : Type} (a b : List α) {k : Nat} (h : a.length = k) : mid (a ++ b) 0 k = a := by
  rw [mid_left a b (by omega), mid_all a h]
theorem bl_mid (s : ByteArray) (i k : Nat) : bl (s.extract i (i + k)) = mid (bl s) i k := by
  rw [bl_extract, mid, List.drop_take]
  congr 1
  omega

/-- The lowest k bytes of a number, the highest first; the number of bytes. -/
def numL (n : Nat) : Nat → List UInt8
  | 0 => []
  | k + 1 => UInt8.ofNat (n / 256 ^ k) :: numL n k
def valL (l : List UInt8) : Nat := l.foldl (fun a b => 256 * a + b.toNat) 0
theorem numL_len (n : Nat) : ∀ k, (numL n k).length = k
  | 0 => rfl
  | k + 1 => by rw [numL, List.length_cons, numL_len n k]
theorem val_from (l : List UInt8) : ∀ a : Nat, l.foldl (fun a b => 256 * a + b.toNat) a = a * 256 ^ l.length + valL l := by
  unfold valL
  induction l with
  | nil => intro a; simp
  | cons b l ih =>
    intro a
    rw [List.foldl_cons, List.foldl_cons, ih, ih (256 * 0 + b.toNat), List.length_cons, Nat.pow_succ]
    have : (256 * a + b.toNat) * 256 ^ l.length = a * (256 ^ l.length * 256) + (256 * 0 + b.toNat) * 256 ^ l.length := by
      rw [Nat.add_mul, Nat.mul_zero, Nat.zero_add, Nat.mul_comm 256 a, Nat.mul_assoc, Nat.mul_comm 256 (256 ^ l.length)]
    omega
theorem valL_cons (b : UInt8) (l : List UInt8) : valL (b :: l) = b.toNat * 256 ^ l.length + valL l := by
  show l.foldl _ (256 * 0 + b.toNat) = _
  rw [val_from]
  congr 1
  simp
theorem valL_lt : ∀ l : List UInt8, valL l < 256 ^ l.length
  | [] => by simp [valL]
  | b :: l => by
    rw [valL_cons, List.length_cons, Nat.pow_succ]
    have h1 := valL_lt l
    have h2 := b.toNat_lt
    have h3 : b.toNat * 256 ^ l.length ≤ 255 * 256 ^ l.length := Nat.mul_le_mul_right _ (by omega)
    omega
theorem valL_numL (n : Nat) : ∀ k, valL (numL n k) = n % 256 ^ k
  | 0 => by simp [numL, valL, Nat.mod_one]
  | k + 1 => by
    rw [numL, valL_cons, numL_len, valL_numL n k]
    have e : (UInt8.ofNat (n / 256 ^ k)).toNat = n / 256 ^ k % 256 := by simp
    rw [e, Nat.pow_succ]
    have h := Nat.mod_mul (a := 256 ^ k) (b := 256) (x := n)
    rw [h, Nat.mul_comm (256 ^ k)]
    omega
theorem numL_inj {n m k : Nat} (h : numL n k = numL m k) (hn : n < 256 ^ k) (hm : m < 256 ^ k) : n = m := by
  have := congrArg valL h
  rw [valL_numL, valL_numL, Nat.mod_eq_of_lt hn, Nat.mod_eq_of_lt hm] at this
  exact this

def numB (n : Int) (k : Nat) : ByteArray := ofL (numL n.toNat k)
def valB (s : ByteArray) : Int := valL (bl s)
theorem numB_size (n : Int) (k : Nat) : (numB n k).size = k := by rw [numB, ofL_size, numL_len]
theorem valB_range {s : ByteArray} {k : Nat} (h : s.size = k) : 0 ≤ valB s ∧ valB s < ((256 ^ k : Nat) : Int) := by
  have := valL_lt (bl s)
  rw [bl_len, h] at this
  unfold valB
  omega

/-- A piece. -/
structure Pc where
  stamp : Int
  gen : Int
  no : Int
  idx : Int
  tot : Int
  data : ByteArray
def noPc : Pc := ⟨0, 0, 0, 0, 0, ⟨#[]⟩⟩
/-- Its numbers are such as the types hold. -/
structure Pc.Fits (p : Pc) : Prop where
  s0 : 0 ≤ p.stamp
  s1 : p.stamp < 18446744073709551616
/-- May it be? -/
def rightP (p : Pc) : Bool := decide (0 ≤ p.gen) && decide (p.gen < 2147483648) && decide (0 ≤ p.no) && decide (p.no < 65536) && decide (1 ≤ p.tot) && decide (p.tot < 65536) && decide (0 ≤ p.idx) && decide (p.idx < p.tot) && decide (p.data.size ≤ 37)
structure Pc.Ok (p : Pc) : Prop where
  g0 : 0 ≤ p.gen
  g1 : p.gen < 2147483648
  n0 : 0 ≤ p.no
  n1 : p.no < 65536
  t0 : 1 ≤ p.tot
  t1 : p.tot < 65536
  i0 : 0 ≤ p.idx
  i1 : p.idx < p.tot
  d : p.data.size ≤ 37
theorem rightP_iff (p : Pc) : rightP p = true ↔ p.Ok := by
  simp only [rightP, Bool.and_eq_true, decide_eq_true_eq]
  constructor
  · rintro ⟨⟨⟨⟨⟨⟨⟨⟨a, b⟩, c⟩, d⟩, e⟩, f⟩, g⟩, h⟩, i⟩
    exact ⟨a, b, c, d, e, f, g, h, i⟩
  · intro h
    exact ⟨⟨⟨⟨⟨⟨⟨⟨h.g0, h.g1⟩, h.n0⟩, h.n1⟩, h.t0⟩, h.t1⟩, h.i0⟩, h.i1⟩, h.d⟩

/-- Its sector. -/
def printB (p : Pc) : ByteArray := numB p.stamp 8 ++ numB p.gen 4 ++ numB p.no 2 ++ numB p.idx 2 ++ numB p.tot 2 ++ numB p.data.size 1 ++ p.data ++ zeroB (37 - p.data.size) ++ numB p.stamp 8
def printL (p : Pc) : List UInt8 := numL p.stamp.toNat 8 ++ (numL p.gen.toNat 4 ++ (numL p.no.toNat 2 ++ (numL p.idx.toNat 2 ++ (numL p.tot.toNat 2 ++ (numL p.data.size 1 ++ (bl p.data ++ (bl (zeroB (37 - p.data.size)) ++ numL p.stamp.toNat 8)))))))
theorem bl_print (p : Pc) : bl (printB p) = printL p := by
  simp only [printB, printL, bl_append, numB, bl_ofL, List.append_assoc, Int.toNat_natCast]
theorem print_size {p : Pc} (h : p.data.size ≤ 37) : (printB p).size = 64 := by
  simp only [printB, ByteArray.size_append, numB_size, zeroB_size]
  omega
theorem printL_len {p : Pc} (h : p.data.size ≤ 37) : (printL p).length = 64 := by rw [← bl_print, bl_len, print_size h]
/-- Both ends of a sector are its stamp. -/
theorem print_ends {p : Pc} (h : p.data.size ≤ 37) : (printL p).take 8 = numL p.stamp.toNat 8 ∧ (printL p).drop 56 = numL p.stamp.toNat 8 := by
  constructor
  · exact mid_here _ _ (numL_len _ 8)
  · have hz : (bl p.data).length = p.data.size := bl_len _
    have hzz : (bl (zeroB (37 - p.data.size))).length = 37 - p.data.size := by rw [bl_len, zeroB_size]
    unfold printL
    simp only [List.drop_append, numL_len, hz, hzz, List.drop_eq_nil_of_le, List.nil_append, show 8 ≤ 56 from by omega, show 4 ≤ 56 - 8 from by omega, show 2 ≤ 56 - 8 - 4 from by omega, show 2 ≤ 56 - 8 - 4 - 2 from by omega, show 2 ≤ 56 - 8 - 4 - 2 - 2 from by omega, show 1 ≤ 56 - 8 - 4 - 2 - 2 - 2 from by omega]
    rw [List.drop_eq_nil_of_le (by rw [hz]; omega), List.drop_eq_nil_of_le (by rw [hzz]; omega)]
    simp only [List.nil_append]
    rw [show 56 - 8 - 4 - 2 - 2 - 2 - 1 - p.data.size - (37 - p.data.size) = 0 by omega, List.drop_zero]

/-- What 64 bytes say. -/
def cutP (s : ByteArray) : Pc := ⟨valB (s.extract 0 8), valB (s.extract 8 12), valB (s.extract 12 14), valB (s.extract 14 16), valB (s.extract 16 18), s.extract 19 (19 + (valB (s.extract 18 19)).toNat)⟩
/-- The piece whose sector it is. -/
def readP (s : ByteArray) : Option Pc := if s.size = 64 ∧ valB (s.extract 18 19) ≤ 37 ∧ rightP (cutP s) = true ∧ printB (cutP s) = s then some (cutP s) else none
theorem readP_some {s : ByteArray} {p : Pc} (h : readP s = some p) : s.size = 64 ∧ p = cutP s ∧ rightP p = true ∧ printB p = s := by
  unfold readP at h
  split at h
  · rename_i hc
    obtain rfl := Option.some.inj h
    exact ⟨hc.1, rfl, hc.2.2.1, hc.2.2.2⟩
  · cases h
theorem cut_print {p : Pc} (h : p.Ok) (hf : p.Fits) : cutP (printB p) = p ∧ valB ((printB p).extract 18 19) = p.data.size := by
  have hz : (bl p.data).length = p.data.size := bl_len _
  have hzz : (bl (zeroB (37 - p.data.size))).length = 37 - p.data.size := by rw [bl_len, zeroB_size]
  have hd := h.d
  have m0 : mid (printL p) 0 8 = numL p.stamp.toNat 8 := mid_here _ _ (numL_len _ 8)
  have m1 : mid (printL p) 8 4 = numL p.gen.toNat 4 := by
    unfold printL
    rw [mid_right _ _ (by rw [numL_len]; omega), numL_len]
    exact mid_here _ _ (numL_len _ 4)
  have m2 : mid (printL p) 12 2 = numL p.no.toNat 2 := by
    unfold printL
    rw [mid_right _ _ (by rw [numL_len]; omega), numL_len, mid_right _ _ (by rw [numL_len]; omega), numL_len]
    exact mid_here _ _ (numL_len _ 2)
  have m3 : mid (printL p) 14 2 = numL p.idx.toNat 2 := by
    unfold printL
    rw [mid_right _ _ (by rw [numL_len]; omega), numL_len, mid_right _ _ (by rw [numL_len]; omega), numL_len, mid_right _ _ (by rw [numL_len]; omega), numL_len]
    exact mid_here _ _ (numL_len _ 2)
  have m4 : mid (printL p) 16 2 = numL p.tot.toNat 2 := by
    unfold printL
    rw [mid_right _ _ (by rw [numL_len]; omega), numL_len, mid_right _ _ (by rw [numL_len]; omega), numL_len, mid_right _ _ (by rw [numL_len]; omega), numL_len, mid_right _ _ (by rw [numL_len]; omega), numL_len]
    exact mid_here _ _ (numL_len _ 2)
  have m5 : mid (printL p) 18 1 = numL p.data.size 1 := by
    unfold printL
    rw [mid_right _ _ (by rw [numL_len]; omega), numL_len, mid_right _ _ (by rw [numL_len]; omega), numL_len, mid_right _ _ (by rw [numL_len]; omega), numL_len, mid_right _ _ (by rw [numL_len]; omega), numL_len, mid_right _ _ (by rw [numL_len]; omega), numL_len]
    exact mid_here _ _ (numL_len _ 1)
  have m6 : mid (printL p) 19 p.data.size = bl p.data := by
    unfold printL
    rw [mid_right _ _ (by rw [numL_len]; omega), numL_len, mid_right _ _ (by rw [numL_len]; omega), numL_len, mid_right _ _ (by rw [numL_len]; omega), numL_len, mid_right _ _ (by rw [numL_len]; omega), numL_len, mid_right _ _ (by rw [numL_len]; omega), numL_len, mid_right _ _ (by rw [numL_len]; omega), numL_len]
    exact mid_here _ _ hz
  have v : ∀ i j k (n : Nat), j = i + k → mid (printL p) i k = numL n k → n < 256 ^ k → valB ((printB p).extract i j) = n := by
    intro i j k n hj hm hn
    subst hj
    rw [valB, bl_mid, bl_print, hm, valL_numL, Nat.mod_eq_of_lt hn]
  have v5 : valB ((printB p).extract 18 19) = p.data.size := v 18 19 1 _ rfl m5 (by omega)
  refine ⟨?_, v5⟩
  have b1 := h.g0
  have b2 := h.g1
  have b3 := h.n0
  have b4 := h.n1
  have b5 := h.t0
  have b6 := h.t1
  have b7 := h.i0
  have b8 := h.i1
  have b9 := hf.s0
  have b10 := hf.s1
  unfold cutP
  rw [v5, v 0 8 8 _ rfl m0 (by omega), v 8 12 4 _ rfl m1 (by omega), v 12 14 2 _ rfl m2 (by omega), v 14 16 2 _ rfl m3 (by omega), v 16 18 2 _ rfl m4 (by omega)]
  have e : (printB p).extract 19 (19 + ((p.data.size : Nat) : Int).toNat) = p.data := by
    apply bl_inj
    rw [Int.toNat_natCast, bl_mid, bl_print, m6]
  rw [e]
  obtain ⟨a, b, c, d, f, g⟩ := p
  simp only [Pc.mk.injEq, and_true]
  simp only at b1 b3 b5 b7 b9
  omega
/-- What is printed is read as it was. -/
theorem read_print {p : Pc} (h : p.Ok) (hf : p.Fits) : readP (printB p) = some p := by
  obtain ⟨h1, h2⟩ := cut_print h hf
  have hd := h.d
  unfold readP
  rw [h1, h2, if_pos ⟨print_size h.d, by omega, (rightP_iff p).2 h, rfl⟩]
theorem print_inj {p q : Pc} (h : p.Ok) (hf : p.Fits) (k : q.Ok) (kf : q.Fits) (e : printB p = printB q) : p = q := by
  have h1 := read_print h hf
  rw [e, read_print k kf] at h1
  exact (Option.some.inj h1).symm

/-- Both ends of what is read are alike. -/
theorem read_ends {s : ByteArray} {p : Pc} (h : readP s = some p) : (bl s).take 8 = (bl s).drop 56 := by
  obtain ⟨_, _, hr, rfl⟩ := readP_some h
  rw [bl_print, (print_ends ((rightP_iff p).1 hr).d).1, (print_ends ((rightP_iff p).1 hr).d).2]
/-- A TORN SECTOR IS NONE. -/
theorem torn_none {a b : Pc} (ha : a.Ok) (fa : a.Fits) (hb : b.Ok) (fb : b.Fits) (hne : a.stamp ≠ b.stamp) {c : Nat} (h8 : 8 ≤ c) (h56 : c ≤ 56) : readP ((printB a).extract 0 c ++ (printB b).extract c 64) = none := by
  cases h : readP ((printB a).extract 0 c ++ (printB b).extract c 64) with
  | none => rfl
  | some p =>
    have he := read_ends h
    have la := printL_len ha.d
    have lb := printL_len hb.d
    rw [bl_append, bl_extract, bl_extract, bl_print, bl_print, List.drop_zero] at he
    rw [List.take_append_of_le_length (by rw [List.length_take]; omega), List.take_take, show min 8 c = 8 by omega, (print_ends ha.d).1] at he
    rw [List.drop_append, List.drop_eq_nil_of_le (by rw [List.length_take]; omega), List.nil_append, List.length_take, List.drop_drop, show c + (56 - min c (printL a).length) = 56 by omega, List.take_of_length_le (by omega), (print_ends hb.d).2] at he
    have h1 := fa.s0
    have h2 := fa.s1
    have h3 := fb.s0
    have h4 := fb.s1
    have := numL_inj he (by omega) (by omega)
    omega
end Go.Proofs.YtcddbpdebklhnaaGreatDoor

namespace Go.Proofs.YtcddbpdebklhnaaGreatDoor

/-- A sector with another byte in one of its stamps is none. -/
theorem turned_none {p : Pc} (h : p.Ok) {j : Nat} (hj : j < 8 ∨ (56 ≤ j ∧ j < 64)) {v : UInt8} (hv : (printL p)[j]? ≠ some v) : readP (ofL ((printL p).set j v)) = none := by
  cases hr : readP (ofL ((printL p).set j v)) with
  | none => rfl
  | some q =>
    have he := read_ends hr
    have hl := printL_len h.d
    obtain ⟨e1, e2⟩ := print_ends h.d
    rw [bl_ofL] at he
    exfalso
    apply hv
    rcases hj with hj | ⟨hj, hj2⟩
    · have h1 : ((printL p).set j v).drop 56 = (printL p).drop 56 := by rw [List.drop_set_of_lt (by omega)]
      rw [h1, e2] at he
      have h2 := congrArg (fun l => l[j]?) he
      simp only [List.getElem?_take, if_pos hj] at h2
      rw [List.getElem?_set_self (by omega), ← e1, List.getElem?_take, if_pos hj] at h2
      exact h2.symm
    · have h1 : ((printL p).set j v).take 8 = (printL p).take 8 := by
        refine List.ext_getElem? fun i => ?_
        rw [List.getElem?_take, List.getElem?_take]
        split
        · rw [List.getElem?_set_ne (by omega)]
        · rfl
      rw [h1, e1] at he
      have h2 := congrArg (fun l => l[j - 56]?) he
      simp only [List.getElem?_drop] at h2
      rw [show 56 + (j - 56) = j by omega, List.getElem?_set_self (by omega), ← e2, List.getElem?_drop, show 56 + (j - 56) = j by omega] at h2
      exact h2

/-- How many sectors a text of n bytes takes. -/
def cntI (n : Int) : Int := if n ≤ 37 then 1 else (n - 1) / 37 + 1
def cntN (n : Nat) : Nat := if n ≤ 37 then 1 else (n - 1) / 37 + 1
theorem cntI_nat (n : Nat) : cntI n = cntN n := by
  unfold cntI cntN
  by_cases h : n ≤ 37
  · rw [if_pos (by omega), if_pos h]; rfl
  · rw [if_neg (by omega), if_neg h]; omega
theorem cnt_pos (n : Nat) : 1 ≤ cntN n := by unfold cntN; split <;> omega
theorem cnt_room (n : Nat) : n ≤ 37 * cntN n ∧ (1 < cntN n → 37 * (cntN n - 1) < n) := by unfold cntN; split <;> omega

/-- The i-th piece of a text. -/
def pieceI (s : ByteArray) (stamp gen no : Int) (i : Nat) : Pc := ⟨stamp, gen, no, i, cntN s.size, s.extract (min s.size (37 * i)) (min s.size (37 * i + 37))⟩
/-- May its pieces be? -/
def layOk (s : ByteArray) (gen no : Int) : Bool := decide (0 ≤ gen) && decide (gen < 2147483648) && decide (0 ≤ no) && decide (no < 65536) && decide (cntN s.size < 65536)
theorem piece_right {s : ByteArray} {stamp gen no : Int} {i : Nat} (hi : i < cntN s.size) : rightP (pieceI s stamp gen no i) = layOk s gen no := by
  have h1 := cnt_pos s.size
  have h2 : (pieceI s stamp gen no i).data.size ≤ 37 := by simp only [pieceI, ByteArray.size_extract]; omega
  rw [Bool.eq_iff_iff]
  simp only [rightP, layOk, Bool.and_eq_true, decide_eq_true_eq]
  simp only [pieceI] at h2 ⊢
  omega
/-- A text's sectors. -/
def layL (s : ByteArray) (stamp gen no : Int) : List ByteArray := (List.range (cntN s.size)).map fun i => printB (pieceI s stamp gen no i)
theorem layL_len (s : ByteArray) (stamp gen no : Int) : (layL s stamp gen no).length = cntN s.size := by simp [layL]
theorem layL_at {s : ByteArray} {stamp gen no : Int} {i : Nat} (hi : i < cntN s.size) : (layL s stamp gen no)[i]? = some (printB (pieceI s stamp gen no i)) := by simp [layL, hi]
theorem piece_read {s : ByteArray} {stamp gen no : Int} {i : Nat} (hi : i < cntN s.size) (hok : layOk s gen no = true) (h0 : 0 ≤ stamp) (h1 : stamp < 18446744073709551616) : readP (printB (pieceI s stamp gen no i)) = some (pieceI s stamp gen no i) :=
  read_print ((rightP_iff _).1 ((piece_right hi).trans hok)) ⟨h0, h1⟩
/-- All but the last one are full; none behind the first one is empty. -/
theorem piece_size {s : ByteArray} {stamp gen no : Int} {i : Nat} : (i + 1 < cntN s.size → (pieceI s stamp gen no i).data.size = 37) ∧ (0 < i → i < cntN s.size → (pieceI s stamp gen no i).data.size ≠ 0) := by
  obtain ⟨h1, h2⟩ := cnt_room s.size
  simp only [pieceI, ByteArray.size_extract]
  constructor
  · intro h
    have := h2 (by omega)
    omega
  · intro h3 h4
    have := h2 (by omega)
    omega
/-- The first i pieces' texts, one behind the other. -/
def joinP (s : ByteArray) (i : Nat) : ByteArray := s.extract 0 (min s.size (37 * i))
theorem joinP_next (s : ByteArray) (stamp gen no : Int) (i : Nat) : joinP s i ++ (pieceI s stamp gen no i).data = joinP s (i + 1) := by
  apply bl_inj
  simp only [joinP, pieceI, bl_append, bl_extract, List.drop_zero]
  have hl : (bl s).length = s.size := bl_len s
  have h1 : (bl s).take (min s.size (37 * i)) = ((bl s).take (min s.size (37 * i + 37))).take (min s.size (37 * i)) := by
    rw [List.take_take]
    congr 1
    omega
  rw [h1, List.take_append_drop]
  congr 1
theorem joinP_all (s : ByteArray) : joinP s (cntN s.size) = s := by
  have h := (cnt_room s.size).1
  unfold joinP
  rw [show min s.size (37 * cntN s.size) = s.size by omega, ByteArray.extract_zero_size]

/-- The text that stands at a place, of sectors that rd tells: document's words (layer 4). -/
def nextF (rd : Int → ByteArray) (at_ end_ gen no : Int) : Nat → Nat → Option Pc → ByteArray → Option (ByteArray × Int)
  | 0, _, _, _ => none
  | f + 1, i, first, acc =>
    if end_ ≤ at_ + i then none else
    match readP (rd (at_ + i)) with
    | none => none
    | some p =>
      let q := first.getD p
      if p.gen = gen ∧ p.no = no ∧ p.idx = i ∧ p.stamp = q.stamp ∧ p.tot = q.tot ∧ ((i : Int) < p.tot - 1 → p.data.size = 37) ∧ (0 < i → p.data.size ≠ 0) then
        if (i : Int) = p.tot - 1 then some (acc ++ p.data, at_ + i + 1) else nextF rd at_ end_ gen no f (i + 1) (some q) (acc ++ p.data)
      else none
def nextP (rd : Int → ByteArray) (at_ end_ gen no : Int) : Option (ByteArray × Int) := nextF rd at_ end_ gen no (end_ - at_).toNat 0 none ⟨#[]⟩

/-- A text that was laid is found, if there is room to its end. -/
theorem next_lay {rd : Int → ByteArray} {s : ByteArray} {stamp gen no at_ end_ : Int} (hok : layOk s gen no = true) (h0 : 0 ≤ stamp) (h1 : stamp < 18446744073709551616)
    (hrd : ∀ i : Nat, i < cntN s.size → rd (at_ + i) = printB (pieceI s stamp gen no i)) (hend : at_ + cntN s.size ≤ end_) :
    ∀ (d i f : Nat) (first : Option Pc), i + d = cntN s.size → 0 < d → d ≤ f → (∀ q, first = some q → q.stamp = stamp ∧ q.tot = cntN s.size) →
      nextF rd at_ end_ gen no f i first (joinP s i) = some (s, at_ + cntN s.size)
  | 0, _, _, _, _, hd, _, _ => absurd hd (by omega)
  | d + 1, i, 0, _, _, _, hf, _ => absurd hf (by omega)
  | d + 1, i, f + 1, first, hi, _, hf, hq => by
    have hlt : i < cntN s.size := by omega
    have hr := piece_read (stamp := stamp) hlt hok h0 h1
    obtain ⟨hs1, hs2⟩ := piece_size (s := s) (stamp := stamp) (gen := gen) (no := no) (i := i)
    have hq2 : (first.getD (pieceI s stamp gen no i)).stamp = stamp ∧ (first.getD (pieceI s stamp gen no i)).tot = cntN s.size := by
      cases first with
      | none => exact ⟨rfl, rfl⟩
      | some q => exact hq q rfl
    unfold nextF
    rw [if_neg (by omega), hrd i hlt, hr]
    simp only
    rw [if_pos ⟨rfl, rfl, rfl, hq2.1.symm, hq2.2.symm, fun h => hs1 (by simp only [pieceI] at h; omega), fun h => hs2 h hlt⟩, joinP_next]
    by_cases hl : d = 0
    · have e1 : (i : Int) = (pieceI s stamp gen no i).tot - 1 := by show (i : Int) = ((cntN s.size : Nat) : Int) - 1; omega
      have e2 : at_ + (i : Int) + 1 = at_ + cntN s.size := by omega
      rw [if_pos e1, show i + 1 = cntN s.size by omega, joinP_all, e2]
    · have e1 : ¬ (i : Int) = (pieceI s stamp gen no i).tot - 1 := by show ¬ (i : Int) = ((cntN s.size : Nat) : Int) - 1; omega
      rw [if_neg e1]
      exact next_lay hok h0 h1 hrd hend d (i + 1) f _ (by omega) (by omega) (by omega) (fun q e => by obtain rfl := Option.some.inj e; exact hq2)
/-- .. and not, if the end is ahead of its last sector. -/
theorem next_short {rd : Int → ByteArray} {s : ByteArray} {stamp gen no at_ end_ : Int} (hok : layOk s gen no = true) (h0 : 0 ≤ stamp) (h1 : stamp < 18446744073709551616)
    (hrd : ∀ i : Nat, i < cntN s.size → rd (at_ + i) = printB (pieceI s stamp gen no i)) (hend : end_ < at_ + cntN s.size) :
    ∀ (f i : Nat) (first : Option Pc) (acc : ByteArray), i < cntN s.size → (∀ q, first = some q → q.stamp = stamp ∧ q.tot = cntN s.size) → nextF rd at_ end_ gen no f i first acc = none
  | 0, _, _, _, _, _ => rfl
  | f + 1, i, first, acc, hi, hq => by
    unfold nextF
    by_cases he : end_ ≤ at_ + i
    · rw [if_pos he]
    · have hr := piece_read (stamp := stamp) hi hok h0 h1
      obtain ⟨hs1, hs2⟩ := piece_size (s := s) (stamp := stamp) (gen := gen) (no := no) (i := i)
      have hq2 : (first.getD (pieceI s stamp gen no i)).stamp = stamp ∧ (first.getD (pieceI s stamp gen no i)).tot = cntN s.size := by
        cases first with
        | none => exact ⟨rfl, rfl⟩
        | some q => exact hq q rfl
      rw [if_neg he, hrd i hi, hr]
      simp only
      rw [if_pos ⟨rfl, rfl, rfl, hq2.1.symm, hq2.2.symm, fun h => hs1 (by simp only [pieceI] at h; omega), fun h => hs2 h hi⟩]
      have e1 : ¬ (i : Int) = (pieceI s stamp gen no i).tot - 1 := by show ¬ (i : Int) = ((cntN s.size : Nat) : Int) - 1; omega
      rw [if_neg e1]
      exact next_short hok h0 h1 hrd hend f (i + 1) _ _ (by omega) (fun q e => by obtain rfl := Option.some.inj e; exact hq2)
/-- .. and not under another number. -/
theorem next_other {rd : Int → ByteArray} {p : Pc} {at_ end_ gen no : Int} (hr : readP (rd at_) = some p) (hne : p.no ≠ no) : nextP rd at_ end_ gen no = none := by
  unfold nextP
  cases (end_ - at_).toNat with
  | zero => rfl
  | succ f =>
    unfold nextF
    split
    · rfl
    · rw [show at_ + ((0 : Nat) : Int) = at_ by omega, hr]
      simp only
      rw [if_neg (fun h => hne h.2.1)]
end Go.Proofs.YtcddbpdebklhnaaGreatDoor

namespace Go.Proofs.YtcddbpdebklhnaaGreatDoor

/-- A number's digits. -/
def digN (n : Nat) : List UInt8 := if _h : n < 10 then [UInt8.ofNat (48 + n)] else digN (n / 10) ++ [UInt8.ofNat (48 + n % 10)]
termination_by n
decreasing_by omega
theorem digN_low {n : Nat} (h : n < 10) : digN n = [UInt8.ofNat (48 + n)] := by
  rw [digN, dif_pos h]
theorem digN_more {n : Nat} (h : ¬ n < 10) : digN n = digN (n / 10) ++ [UInt8.ofNat (48 + n % 10)] := by
  rw [digN, dif_neg h]
/-- What digits are worth. -/
def valD (l : List UInt8) : Nat := l.foldl (fun a d => 10 * a + (d.toNat - 48)) 0
theorem valD_snoc (l : List UInt8) (d : UInt8) : valD (l ++ [d]) = 10 * valD l + (d.toNat - 48) := by simp [valD]
theorem dig_val {k : Nat} (h : k < 10) : (UInt8.ofNat (48 + k)).toNat = 48 + k := by
  rw [UInt8.toNat_ofNat']
  omega
theorem digN_val (n : Nat) : valD (digN n) = n := by
  induction n using Nat.strongRecOn with
  | ind n ih =>
    by_cases h : n < 10
    · rw [digN_low h]
      simp only [valD, List.foldl_cons, List.foldl_nil, dig_val h]
      omega
    · rw [digN_more h, valD_snoc, ih (n / 10) (by omega), dig_val (by omega)]
      omega
theorem digN_inj {a b : Nat} (h : digN a = digN b) : a = b := by
  rw [← digN_val a, h, digN_val]
theorem digN_digit (n : Nat) : ∀ d ∈ digN n, 48 ≤ d.toNat ∧ d.toNat ≤ 57 := by
  induction n using Nat.strongRecOn with
  | ind n ih =>
    intro d hd
    by_cases h : n < 10
    · rw [digN_low h, List.mem_singleton] at hd
      rw [hd, dig_val h]
      omega
    · rw [digN_more h, List.mem_append, List.mem_singleton] at hd
      rcases hd with hd | hd
      · exact ih (n / 10) (by omega) d hd
      · rw [hd, dig_val (by omega)]
        omega
theorem digN_len (n : Nat) : ∀ k, 1 ≤ k → n < 10 ^ k → (digN n).length ≤ k := by
  induction n using Nat.strongRecOn with
  | ind n ih =>
    intro k hk hn
    by_cases h : n < 10
    · rw [digN_low h]; exact hk
    · rw [digN_more h, List.length_append, List.length_singleton]
      obtain ⟨j, rfl⟩ : ∃ j, k = j + 1 := ⟨k - 1, by omega⟩
      rw [Nat.pow_succ] at hn
      by_cases hj : j = 0
      · subst hj; omega
      · have := ih (n / 10) (by omega) j (by omega) (by omega)
        omega
theorem digN_pos (n : Nat) : 1 ≤ (digN n).length := by
  by_cases h : n < 10
  · rw [digN_low h]; exact Nat.le_refl _
  · rw [digN_more h, List.length_append, List.length_singleton]; omega
/-- No nought ahead, but of 0 itself. -/
theorem digN_head {n : Nat} (h : 0 < n) : ∃ d l, digN n = d :: l ∧ 49 ≤ d.toNat ∧ d.toNat ≤ 57 := by
  induction n using Nat.strongRecOn with
  | ind n ih =>
    by_cases h1 : n < 10
    · rw [digN_low h1]
      exact ⟨_, [], rfl, by rw [dig_val h1]; omega, by rw [dig_val h1]; omega⟩
    · obtain ⟨d, l, e, h2, h3⟩ := ih (n / 10) (by omega) (by omega)
      rw [digN_more h1, e]
      exact ⟨d, _, rfl, h2, h3⟩

/-- A number's text. -/
def numT (n : Int) : List UInt8 := (if n < 0 then [45] else []) ++ digN n.natAbs ++ [44]
/-- All ahead of the comma. -/
def headT (n : Int) : List UInt8 := (if n < 0 then [45] else []) ++ digN n.natAbs
theorem numT_head (n : Int) : numT n = headT n ++ [44] := rfl
theorem headT_none (n : Int) : ∀ d ∈ headT n, d ≠ 44 := by
  intro d hd e
  subst e
  unfold headT at hd
  rw [List.mem_append] at hd
  rcases hd with hd | hd
  · split at hd
    · rw [List.mem_singleton] at hd; exact absurd hd (by decide)
    · cases hd
  · have := digN_digit _ _ hd
    exact absurd this (by decide)
theorem split_first {a b x y : List UInt8} (ha : ∀ d ∈ a, d ≠ 44) (hb : ∀ d ∈ b, d ≠ 44) (h : a ++ 44 :: x = b ++ 44 :: y) : a = b ∧ x = y := by
  induction a generalizing b with
  | nil =>
    cases b with
    | nil => exact ⟨rfl, (List.cons.inj h).2⟩
    | cons d b => exact absurd (List.cons.inj h).1.symm (hb d (List.mem_cons_self ..))
  | cons c a ih =>
    cases b with
    | nil => exact absurd (List.cons.inj h).1 (ha c (List.mem_cons_self ..))
    | cons d b =>
      obtain ⟨h1, h2⟩ := List.cons.inj h
      obtain ⟨h3, h4⟩ := ih (fun e he => ha e (List.mem_cons_of_mem _ he)) (fun e he => hb e (List.mem_cons_of_mem _ he)) h2
      exact ⟨by rw [h1, h3], h4⟩
theorem headT_inj {a b : Int} (h : headT a = headT b) : a = b := by
  unfold headT at h
  have dash : ∀ n l, digN n ≠ 45 :: l := fun n l e => by
    have := digN_digit n 45 (by rw [e]; exact List.mem_cons_self ..)
    exact absurd this (by decide)
  by_cases ha : a < 0
  · by_cases hb : b < 0
    · rw [if_pos ha, if_pos hb] at h
      have := digN_inj (List.cons.inj h).2
      omega
    · rw [if_pos ha, if_neg hb] at h
      exact absurd h.symm (dash _ _)
  · by_cases hb : b < 0
    · rw [if_neg ha, if_pos hb] at h
      exact absurd h (dash _ _)
    · rw [if_neg ha, if_neg hb] at h
      have := digN_inj h
      omega
/-- No number's text is another one's beginning. -/
theorem numT_front {a b : Int} {x y : List UInt8} (h : numT a ++ x = numT b ++ y) : a = b ∧ x = y := by
  rw [numT_head, numT_head, List.append_assoc, List.append_assoc] at h
  obtain ⟨h1, h2⟩ := split_first (headT_none a) (headT_none b) h
  exact ⟨headT_inj h1, h2⟩
theorem headT_len {n : Int} (h0 : -9223372036854775808 ≤ n) (h1 : n ≤ 9223372036854775807) : 1 ≤ (headT n).length ∧ (headT n).length ≤ 20 := by
  have h2 := digN_len n.natAbs 19 (by omega) (by omega)
  have h3 := digN_pos n.natAbs
  unfold headT
  rw [List.length_append]
  split
  · simp; omega
  · simp; omega

/-- What is taken from a text's front: a number from lo to hi, or none. -/
def Takes (S : List UInt8) (lo hi : Int) (r : Option (Int × List UInt8)) : Prop :=
  (∃ n rest, -9223372036854775808 ≤ n ∧ n ≤ 9223372036854775807 ∧ S = numT n ++ rest ∧ lo ≤ n ∧ n ≤ hi ∧ r = some (n, rest)) ∨
    ((¬ ∃ n rest, -9223372036854775808 ≤ n ∧ n ≤ 9223372036854775807 ∧ S = numT n ++ rest ∧ lo ≤ n ∧ n ≤ hi) ∧ r = none)
theorem takes_one {S : List UInt8} {lo hi : Int} {r q : Option (Int × List UInt8)} (h : Takes S lo hi r) (k : Takes S lo hi q) : r = q := by
  rcases h with ⟨n, x, a1, a2, a3, a4, a5, rfl⟩ | ⟨a1, rfl⟩ <;> rcases k with ⟨m, y, b1, b2, b3, b4, b5, rfl⟩ | ⟨b1, rfl⟩
  · rw [a3] at b3
    obtain ⟨rfl, rfl⟩ := numT_front b3
    rfl
  · exact absurd ⟨n, x, a1, a2, a3, a4, a5⟩ b1
  · exact absurd ⟨m, y, b1, b2, b3, b4, b5⟩ a1
  · rfl
theorem takes_some (S : List UInt8) (lo hi : Int) : ∃ r, Takes S lo hi r := by
  by_cases h : ∃ n rest, -9223372036854775808 ≤ n ∧ n ≤ 9223372036854775807 ∧ S = numT n ++ rest ∧ lo ≤ n ∧ n ≤ hi
  · obtain ⟨n, rest, a1, a2, a3, a4, a5⟩ := h
    exact ⟨_, .inl ⟨n, rest, a1, a2, a3, a4, a5, rfl⟩⟩
  · exact ⟨none, .inr ⟨h, rfl⟩⟩
end Go.Proofs.YtcddbpdebklhnaaGreatDoor
