/-
  Plain words of sectors: numbers as bytes, pieces, how they stand as 64 bytes, and how these are read. No program is named here.
-/
import Derived.Test.YthmjeibanofliaaDoorDiskP
namespace Go.Proofs.YthmjeibanofliaaDoor

/-- A text's bytes; a text of bytes. -/
def bl (s : ByteArray) : List UInt8 := s.data.toList
def ofL (l : List UInt8) : ByteArray := ⟨l.toArray⟩
theorem bl_ofL (l : List UInt8) : bl (ofL l) = l := rfl
theorem ofL_bl (s : ByteArray) : ofL (bl s) = s := by
  apply ByteArray.ext
  simp [ofL, bl]
theorem bl_inj {s t : ByteArray} (h : bl s = bl t) : s = t := by rw [← ofL_bl s, ← ofL_bl t, h]
theorem bl_len (s : ByteArray) : (bl s).length = s.size := by simp [bl]
theorem bl_append (s t : ByteArray) : bl (s ++ t) = bl s ++ bl t := by simp [bl]
theorem bl_extract (s : ByteArray) (i j : Nat) : bl (s.extract i j) = ((bl s).take j).drop i := by
  simp [bl, List.extract_eq_take_drop, List.drop_take]
theorem ofL_size (l : List UInt8) : (ofL l).size = l.length := by simp [ofL, ByteArray.size]

/-- So many of a list's, from a place on. -/
def mid {α : Type} (l : List α) (i k : Nat) : List α := (l.drop i).take k
theorem mid_right {α : Type} (a b : List α) {i k : Nat} (h : a.length ≤ i) : mid (a ++ b) i k = mid b (i - a.length) k := by
  unfold mid
  rw [List.drop_append, List.drop_eq_nil_of_le h, List.nil_append]
theorem mid_left {α : Type} (a b : List α) {i k : Nat} (h : i + k ≤ a.length) : mid (a ++ b) i k = mid a i k := by
  unfold mid
  rw [List.drop_append_of_le_length (by omega), List.take_append_of_le_length (by rw [List.length_drop]; omega)]
theorem mid_all {α : Type} (a : List α) {k : Nat} (h : a.length = k) : mid a 0 k = a := by
  unfold mid
  rw [List.drop_zero, ← h, List.take_length]
theorem mid_here {α : Type} (a b : List α) {k : Nat} (h : a.length = k) : mid (a ++ b) 0 k = a := by
  rw [mid_left a b (by omega), mid_all a h]
theorem bl_mid (s : ByteArray) (i k : Nat) : bl (s.extract i (i + k)) = mid (bl s) i k := by
  rw [bl_extract, mid, List.drop_take]
  congr 1
  omega

/-- The lowest k bytes of a number, the highest first; the number of bytes. -/
def numL (n : Nat) : Nat → List UInt8
  | 0 => []
  | k + 1 => UInt8.ofNat (n / 256 ^ k) :: numL n k
def valL (l : List UInt8) : Nat := l.foldl (fun a b => 256 * a + b.toNat) 0
theorem numL_len (n : Nat) : ∀ k, (numL n k).length = k
  | 0 => rfl
  | k + 1 => by rw [numL, List.length_cons, numL_len n k]
theorem val_from (l : List UInt8) : ∀ a : Nat, l.foldl (fun a b => 256 * a + b.toNat) a = a * 256 ^ l.length + valL l := by
  unfold valL
  induction l with
  | nil => intro a; simp
  | cons b l ih =>
    intro a
    rw [List.foldl_cons, List.foldl_cons, ih, ih (256 * 0 + b.toNat), List.length_cons, Nat.pow_succ]
    have : (256 * a + b.toNat) * 256 ^ l.length = a * (256 ^ l.length * 256) + (256 * 0 + b.toNat) * 256 ^ l.length := by
      rw [Nat.add_mul, Nat.mul_zero, Nat.zero_add, Nat.mul_comm 256 a, Nat.mul_assoc, Nat.mul_comm 256 (256 ^ l.length)]
    omega
theorem valL_cons (b : UInt8) (l : List UInt8) : valL (b :: l) = b.toNat * 256 ^ l.length + valL l := by
  show l.foldl _ (256 * 0 + b.toNat) = _
  rw [val_from]
  congr 1
  simp
theorem valL_lt : ∀ l : List UInt8, valL l < 256 ^ l.length
  | [] => by simp [valL]
  | b :: l => by
    rw [valL_cons, List.length_cons, Nat.pow_succ]
    have h1 := valL_lt l
    have h2 := b.toNat_lt
    have h3 : b.toNat * 256 ^ l.length ≤ 255 * 256 ^ l.length := Nat.mul_le_mul_right _ (by omega)
    omega
theorem valL_numL (n : Nat) : ∀ k, valL (numL n k) = n % 256 ^ k
  | 0 => by simp [numL, valL, Nat.mod_one]
  | k + 1 => by
    rw [numL, valL_cons, numL_len, valL_numL n k]
    have e : (UInt8.ofNat (n / 256 ^ k)).toNat = n / 256 ^ k % 256 := by simp
    rw [e, Nat.pow_succ]
    have h := Nat.mod_mul (a := 256 ^ k) (b := 256) (x := n)
    rw [h, Nat.mul_comm (256 ^ k)]
    omega
theorem numL_inj {n m k : Nat} (h : numL n k = numL m k) (hn : n < 256 ^ k) (hm : m < 256 ^ k) : n = m := by
  have := congrArg valL h
  rw [valL_numL, valL_numL, Nat.mod_eq_of_lt hn, Nat.mod_eq_of_lt hm] at this
  exact this

def numB (n : Int) (k : Nat) : ByteArray := ofL (numL n.toNat k)
def valB (s : ByteArray) : Int := valL (bl s)
theorem numB_size (n : Int) (k : Nat) : (numB n k).size = k := by rw [numB, ofL_size, numL_len]
theorem valB_range {s : ByteArray} {k : Nat} (h : s.size = k) : 0 ≤ valB s ∧ valB s < ((256 ^ k : Nat) : Int) := by
  have := valL_lt (bl s)
  rw [bl_len, h] at this
  unfold valB
  omega

/-- A piece. -/
structure Pc where
  stamp : Int
  gen : Int
  no : Int
  idx : Int
  tot : Int
  data : ByteArray
def noPc : Pc := ⟨0, 0, 0, 0, 0, ⟨#[]⟩⟩
/-- Its numbers are such as the types hold. -/
structure Pc.Fits (p : Pc) : Prop where
  s0 : 0 ≤ p.stamp
  s1 : p.stamp < 18446744073709551616
/-- May it be? -/
def rightP (p : Pc) : Bool := decide (0 ≤ p.gen) && decide (p.gen < 2147483648) && decide (0 ≤ p.no) && decide (p.no < 65536) && decide (1 ≤ p.tot) && decide (p.tot < 65536) && decide (0 ≤ p.idx) && decide (p.idx < p.tot) && decide (p.data.size ≤ 37)
structure Pc.Ok (p : Pc) : Prop where
  g0 : 0 ≤ p.gen
  g1 : p.gen < 2147483648
  n0 : 0 ≤ p.no
  n1 : p.no < 65536
  t0 : 1 ≤ p.tot
  t1 : p.tot < 65536
  i0 : 0 ≤ p.idx
  i1 : p.idx < p.tot
  d : p.data.size ≤ 37
theorem rightP_iff (p : Pc) : rightP p = true ↔ p.Ok := by
  simp only [rightP, Bool.and_eq_true, decide_eq_true_eq]
  constructor
  · rintro ⟨⟨⟨⟨⟨⟨⟨⟨a, b⟩, c⟩, d⟩, e⟩, f⟩, g⟩, h⟩, i⟩
    exact ⟨a, b, c, d, e, f, g, h, i⟩
  · intro h
    exact ⟨⟨⟨⟨⟨⟨⟨⟨h.g0, h.g1⟩, h.n0⟩, h.n1⟩, h.t0⟩, h.t1⟩, h.i0⟩, h.i1⟩, h.d⟩

/-- Its sector. -/
def printB (p : Pc) : ByteArray := numB p.stamp 8 ++ numB p.gen 4 ++ numB p.no 2 ++ numB p.idx 2 ++ numB p.tot 2 ++ numB p.data.size 1 ++ p.data ++ zeroB (37 - p.data.size) ++ numB p.stamp 8
def printL (p : Pc) : List UInt8 := numL p.stamp.toNat 8 ++ (numL p.gen.toNat 4 ++ (numL p.no.toNat 2 ++ (numL p.idx.toNat 2 ++ (numL p.tot.toNat 2 ++ (numL p.data.size 1 ++ (bl p.data ++ (bl (zeroB (37 - p.data.size)) ++ numL p.stamp.toNat 8)))))))
theorem bl_print (p : Pc) : bl (printB p) = printL p := by
  simp only [printB, printL, bl_append, numB, bl_ofL, List.append_assoc, Int.toNat_natCast]
theorem print_size {p : Pc} (h : p.data.size ≤ 37) : (printB p).size = 64 := by
  simp only [printB, ByteArray.size_append, numB_size, zeroB_size]
  omega
theorem printL_len {p : Pc} (h : p.data.size ≤ 37) : (printL p).length = 64 := by rw [← bl_print, bl_len, print_size h]
/-- Both ends of a sector are its stamp. -/
theorem print_ends {p : Pc} (h : p.data.size ≤ 37) : (printL p).take 8 = numL p.stamp.toNat 8 ∧ (printL p).drop 56 = numL p.stamp.toNat 8 := by
  constructor
  · exact mid_here _ _ (numL_len _ 8)
  · have hz : (bl p.data).length = p.data.size := bl_len _
    have hzz : (bl (zeroB (37 - p.data.size))).length = 37 - p.data.size := by rw [bl_len, zeroB_size]
    unfold printL
    simp only [List.drop_append, numL_len, hz, hzz, List.drop_eq_nil_of_le, List.nil_append, show 8 ≤ 56 from by omega, show 4 ≤ 56 - 8 from by omega, show 2 ≤ 56 - 8 - 4 from by omega, show 2 ≤ 56 - 8 - 4 - 2 from by omega, show 2 ≤ 56 - 8 - 4 - 2 - 2 from by omega, show 1 ≤ 56 - 8 - 4 - 2 - 2 - 2 from by omega]
    rw [List.drop_eq_nil_of_le (by rw [hz]; omega), List.drop_eq_nil_of_le (by rw [hzz]; omega)]
    simp only [List.nil_append]
    rw [show 56 - 8 - 4 - 2 - 2 - 2 - 1 - p.data.size - (37 - p.data.size) = 0 by omega, List.drop_zero]

/-- What 64 bytes say. -/
def cutP (s : ByteArray) : Pc := ⟨valB (s.extract 0 8), valB (s.extract 8 12), valB (s.extract 12 14), valB (s.extract 14 16), valB (s.extract 16 18), s.extract 19 (19 + (valB (s.extract 18 19)).toNat)⟩
/-- The piece whose sector it is. -/
def readP (s : ByteArray) : Option Pc := if s.size = 64 ∧ valB (s.extract 18 19) ≤ 37 ∧ rightP (cutP s) = true ∧ printB (cutP s) = s then some (cutP s) else none
theorem readP_some {s : ByteArray} {p : Pc} (h : readP s = some p) : s.size = 64 ∧ p = cutP s ∧ rightP p = true ∧ printB p = s := by
  unfold readP at h
  split at h
  · rename_i hc
    obtain rfl := Option.some.inj h
    exact ⟨hc.1, rfl, hc.2.2.1, hc.2.2.2⟩
  · cases h
theorem cut_print {p : Pc} (h : p.Ok) (hf : p.Fits) : cutP (printB p) = p ∧ valB ((printB p).extract 18 19) = p.data.size := by
  have hz : (bl p.data).length = p.data.size := bl_len _
  have hzz : (bl (zeroB (37 - p.data.size))).length = 37 - p.data.size := by rw [bl_len, zeroB_size]
  have hd := h.d
  have m0 : mid (printL p) 0 8 = numL p.stamp.toNat 8 := mid_here _ _ (numL_len _ 8)
  have m1 : mid (printL p) 8 4 = numL p.gen.toNat 4 := by
    unfold printL
    rw [mid_right _ _ (by rw [numL_len]; omega), numL_len]
    exact mid_here _ _ (numL_len _ 4)
  have m2 : mid (printL p) 12 2 = numL p.no.toNat 2 := by
    unfold printL
    rw [mid_right _ _ (by rw [numL_len]; omega), numL_len, mid_right _ _ (by rw [numL_len]; omega), numL_len]
    exact mid_here _ _ (numL_len _ 2)
  have m3 : mid (printL p) 14 2 = numL p.idx.toNat 2 := by
    unfold printL
    rw [mid_right _ _ (by rw [numL_len]; omega), numL_len, mid_right _ _ (by rw [numL_len]; omega), numL_len, mid_right _ _ (by rw [numL_len]; omega), numL_len]
    exact mid_here _ _ (numL_len _ 2)
  have m4 : mid (printL p) 16 2 = numL p.tot.toNat 2 := by
    unfold printL
    rw [mid_right _ _ (by rw [numL_len]; omega), numL_len, mid_right _ _ (by rw [numL_len]; omega), numL_len, mid_right _ _ (by rw [numL_len]; omega), numL_len, mid_right _ _ (by rw [numL_len]; omega), numL_len]
    exact mid_here _ _ (numL_len _ 2)
  have m5 : mid (printL p) 18 1 = numL p.data.size 1 := by
    unfold printL
    rw [mid_right _ _ (by rw [numL_len]; omega), numL_len, mid_right _ _ (by rw [numL_len]; omega), numL_len, mid_right _ _ (by rw [numL_len]; omega), numL_len, mid_right _ _ (by rw [numL_len]; omega), numL_len, mid_right _ _ (by rw [numL_len]; omega), numL_len]
    exact mid_here _ _ (numL_len _ 1)
  have m6 : mid (printL p) 19 p.data.size = bl p.data := by
    unfold printL
    rw [mid_right _ _ (by rw [numL_len]; omega), numL_len, mid_right _ _ (by rw [numL_len]; omega), numL_len, mid_right _ _ (by rw [numL_len]; omega), numL_len, mid_right _ _ (by rw [numL_len]; omega), numL_len, mid_right _ _ (by rw [numL_len]; omega), numL_len, mid_right _ _ (by rw [numL_len]; omega), numL_len]
    exact mid_here _ _ hz
  have v : ∀ i j k (n : Nat), j = i + k → mid (printL p) i k = numL n k → n < 256 ^ k → valB ((printB p).extract i j) = n := by
    intro i j k n hj hm hn
    subst hj
    rw [valB, bl_mid, bl_print, hm, valL_numL, Nat.mod_eq_of_lt hn]
  have v5 : valB ((printB p).extract 18 19) = p.data.size := v 18 19 1 _ rfl m5 (by omega)
  refine ⟨?_, v5⟩
  have b1 := h.g0
  have b2 := h.g1
  have b3 := h.n0
  have b4 := h.n1
  have b5 := h.t0
  have b6 := h.t1
  have b7 := h.i0
  have b8 := h.i1
  have b9 := hf.s0
  have b10 := hf.s1
  unfold cutP
  rw [v5, v 0 8 8 _ rfl m0 (by omega), v 8 12 4 _ rfl m1 (by omega), v 12 14 2 _ rfl m2 (by omega), v 14 16 2 _ rfl m3 (by omega), v 16 18 2 _ rfl m4 (by omega)]
  have e : (printB p).extract 19 (19 + ((p.data.size : Nat) : Int).toNat) = p.data := by
    apply bl_inj
    rw [Int.toNat_natCast, bl_mid, bl_print, m6]
  rw [e]
  obtain ⟨a, b, c, d, f, g⟩ := p
  simp only [Pc.mk.injEq, and_true]
  simp only at b1 b3 b5 b7 b9
  omega
/-- What is printed is read as it was. -/
theorem read_print {p : Pc} (h : p.Ok) (hf : p.Fits) : readP (printB p) = some p := by
  obtain ⟨h1, h2⟩ := cut_print h hf
  have hd := h.d
  unfold readP
  rw [h1, h2, if_pos ⟨print_size h.d, by omega, (rightP_iff p).2 h, rfl⟩]
theorem print_inj {p q : Pc} (h : p.Ok) (hf : p.Fits) (k : q.Ok) (kf : q.Fits) (e : printB p = printB q) : p = q := by
  have h1 := read_print h hf
  rw [e, read_print k kf] at h1
  exact (Option.some.inj h1).symm

/-- Both ends of what is read are alike. -/
theorem read_ends {s : ByteArray} {p : Pc} (h : readP s = some p) : (bl s).take 8 = (bl s).drop 56 := by
  obtain ⟨_, _, hr, rfl⟩ := readP_some h
  rw [bl_print, (print_ends ((rightP_iff p).1 hr).d).1, (print_ends ((rightP_iff p).1 hr).d).2]
/-- A TORN SECTOR IS NONE. -/
theorem torn_none {a b : Pc} (ha : a.Ok) (fa : a.Fits) (hb : b.Ok) (fb : b.Fits) (hne : a.stamp ≠ b.stamp) {c : Nat} (h8 : 8 ≤ c) (h56 : c ≤ 56) : readP ((printB a).extract 0 c ++ (printB b).extract c 64) = none := by
  cases h : readP ((printB a).extract 0 c ++ (printB b).extract c 64) with
  | none => rfl
  | some p =>
    have he := read_ends h
    have la := printL_len ha.d
    have lb := printL_len hb.d
    rw [bl_append, bl_extract, bl_extract, bl_print, bl_print, List.drop_zero] at he
    rw [List.take_append_of_le_length (by rw [List.length_take]; omega), List.take_take, show min 8 c = 8 by omega, (print_ends ha.d).1] at he
    rw [List.drop_append, List.drop_eq_nil_of_le (by rw [List.length_take]; omega), List.nil_append, List.length_take, List.drop_drop, show c + (56 - min c (printL a).length) = 56 by omega, List.take_of_length_le (by omega), (print_ends hb.d).2] at he
    have h1 := fa.s0
    have h2 := fa.s1
    have h3 := fb.s0
    have h4 := fb.s1
    have := numL_inj he (by omega) (by omega)
    omega
end Go.Proofs.YthmjeibanofliaaDoor
