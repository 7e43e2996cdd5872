/-
  Plain words of labels: levels (integers) and sets (numbers from 0 to 65535), their order, join, meet and what is taken off. No program is named here.
-/
import Derived.Laws.BitsLemmas
import Derived.Below
import Derived.Lib.Bytealg
import Derived.Laws.BytesArg
namespace Go.Proofs.YtfjaibaidpbppaaGreatDoor

/-- The greater, the lesser of two levels. -/
def mxI (l m : Int) : Int := if l < m then m else l
def mnI (l m : Int) : Int := if m < l then m else l
def orS (s t : Int) : Int := bits .or .u16 s t
def andS (s t : Int) : Int := bits .and .u16 s t
def offS (s t : Int) : Int := bits .andNot .u16 s t
def offL (l m : Int) : Int := if m < l then l else 0
/-- Is the one below the other? -/
def leqB (l s m t : Int) : Bool := decide (l ≤ m) && (offS s t == 0)
/-- May it be? -/
def rightB (l : Int) : Bool := decide (0 ≤ l) && decide (l ≤ 7)
def sameB (l s m t : Int) : Bool := (l == m) && (s == t)
/-- A number that is a set. -/
def SetN (s : Int) : Prop := 0 ≤ s ∧ s < 65536

theorem u16_wrap (n : Int) : IntKind.u16.wrap n = n % 65536 := by simp [IntKind.wrap, IntKind.bits, IntKind.signed]

theorem set_bv {s : Int} (h : SetN s) : ∃ S : BitVec 16, s = (S.toNat : Int) := by
  obtain ⟨h0, h1⟩ := h
  refine ⟨BitVec.ofNat 16 s.toNat, ?_⟩
  rw [BitVec.toNat_ofNat]
  omega

theorem bv_set (S : BitVec 16) : SetN (S.toNat : Int) := ⟨by omega, by have := S.isLt; omega⟩

theorem orS_bv (S T : BitVec 16) : orS (S.toNat : Int) (T.toNat : Int) = ((S ||| T).toNat : Int) := by
  have h := (S ||| T).isLt
  have e : orS (S.toNat : Int) (T.toNat : Int) = ((S ||| T).toNat : Int) % 65536 := by
    rw [← u16_wrap]
    simp only [orS, bits, IntKind.bits, BitVec.ofInt_natCast, BitVec.ofNat_toNat, BitVec.setWidth_eq]
    rfl
  rw [e]; omega
theorem andS_bv (S T : BitVec 16) : andS (S.toNat : Int) (T.toNat : Int) = ((S &&& T).toNat : Int) := by
  have h := (S &&& T).isLt
  have e : andS (S.toNat : Int) (T.toNat : Int) = ((S &&& T).toNat : Int) % 65536 := by
    rw [← u16_wrap]
    simp only [andS, bits, IntKind.bits, BitVec.ofInt_natCast, BitVec.ofNat_toNat, BitVec.setWidth_eq]
    rfl
  rw [e]; omega
theorem offS_bv (S T : BitVec 16) : offS (S.toNat : Int) (T.toNat : Int) = ((S &&& ~~~T).toNat : Int) := by
  have h := (S &&& ~~~T).isLt
  have e : offS (S.toNat : Int) (T.toNat : Int) = ((S &&& ~~~T).toNat : Int) % 65536 := by
    rw [← u16_wrap]
    simp only [offS, bits, IntKind.bits, BitVec.ofInt_natCast, BitVec.ofNat_toNat, BitVec.setWidth_eq]
    rfl
  rw [e]; omega

theorem orS_set {s t : Int} (hs : SetN s) (ht : SetN t) : SetN (orS s t) := by
  obtain ⟨S, rfl⟩ := set_bv hs
  obtain ⟨T, rfl⟩ := set_bv ht
  rw [orS_bv]; exact bv_set _
theorem andS_set {s t : Int} (hs : SetN s) (ht : SetN t) : SetN (andS s t) := by
  obtain ⟨S, rfl⟩ := set_bv hs
  obtain ⟨T, rfl⟩ := set_bv ht
  rw [andS_bv]; exact bv_set _
theorem offS_set {s t : Int} (hs : SetN s) (ht : SetN t) : SetN (offS s t) := by
  obtain ⟨S, rfl⟩ := set_bv hs
  obtain ⟨T, rfl⟩ := set_bv ht
  rw [offS_bv]; exact bv_set _

theorem offS_zero (S T : BitVec 16) : (offS (S.toNat : Int) (T.toNat : Int) == 0) = true ↔ ∀ i : Nat, i < 16 → S.getLsbD i = true → T.getLsbD i = true := by
  rw [offS_bv]
  have e : ((((S &&& ~~~T).toNat : Int) == 0) = true) ↔ S &&& ~~~T = 0#16 := by
    rw [beq_iff_eq, ← BitVec.toNat_inj]
    simp only [BitVec.toNat_ofNat]
    omega
  rw [e]
  constructor
  · intro h i hi hs
    have := congrArg (fun b => b.getLsbD i) h
    simp only [BitVec.getLsbD_and, BitVec.getLsbD_not, hs, hi, decide_true, Bool.true_and, BitVec.getLsbD_zero] at this
    simpa using this
  · intro h
    apply BitVec.eq_of_getLsbD_eq
    intro i hi
    simp only [BitVec.getLsbD_and, BitVec.getLsbD_not, hi, decide_true, Bool.true_and, BitVec.getLsbD_zero]
    have := h i hi
    cases hS : S.getLsbD i
    · rfl
    · rw [this hS]; rfl

/-- Below, said of levels and bits. -/
theorem leqB_iff {l m : Int} (S T : BitVec 16) : leqB l (S.toNat : Int) m (T.toNat : Int) = true ↔ l ≤ m ∧ ∀ i : Nat, i < 16 → S.getLsbD i = true → T.getLsbD i = true := by
  rw [leqB, Bool.and_eq_true, offS_zero, decide_eq_true_iff]

theorem bv_same (S T : BitVec 16) (h : ∀ i : Nat, i < 16 → (S.getLsbD i = true ↔ T.getLsbD i = true)) : S = T := by
  apply BitVec.eq_of_getLsbD_eq
  intro i hi
  exact Bool.eq_iff_iff.2 (h i hi)

theorem sameB_iff {l s m t : Int} : sameB l s m t = true ↔ l = m ∧ s = t := by simp [sameB]

/-! ### The lattice -/
theorem leq_refl (l : Int) {s : Int} (hs : SetN s) : leqB l s l s = true := by
  obtain ⟨S, rfl⟩ := set_bv hs
  exact (leqB_iff S S).2 ⟨Int.le_refl _, fun _ _ h => h⟩
theorem leq_anti {l s m t : Int} (hs : SetN s) (ht : SetN t) (h : leqB l s m t = true) (k : leqB m t l s = true) : l = m ∧ s = t := by
  obtain ⟨S, rfl⟩ := set_bv hs
  obtain ⟨T, rfl⟩ := set_bv ht
  rw [leqB_iff] at h k
  refine ⟨by omega, ?_⟩
  rw [bv_same S T (fun i hi => ⟨h.2 i hi, k.2 i hi⟩)]
theorem leq_trans {l s m t n u : Int} (hs : SetN s) (ht : SetN t) (hu : SetN u) (h : leqB l s m t = true) (k : leqB m t n u = true) : leqB l s n u = true := by
  obtain ⟨S, rfl⟩ := set_bv hs
  obtain ⟨T, rfl⟩ := set_bv ht
  obtain ⟨U, rfl⟩ := set_bv hu
  rw [leqB_iff] at h k ⊢
  exact ⟨by omega, fun i hi x => k.2 i hi (h.2 i hi x)⟩
theorem join_leq {l s m t n u : Int} (hs : SetN s) (ht : SetN t) (hu : SetN u) : leqB (mxI l m) (orS s t) n u = (leqB l s n u && leqB m t n u) := by
  obtain ⟨S, rfl⟩ := set_bv hs
  obtain ⟨T, rfl⟩ := set_bv ht
  obtain ⟨U, rfl⟩ := set_bv hu
  rw [Bool.eq_iff_iff, Bool.and_eq_true, orS_bv, leqB_iff, leqB_iff, leqB_iff]
  have e : mxI l m ≤ n ↔ l ≤ n ∧ m ≤ n := by unfold mxI; split <;> omega
  rw [e]
  constructor
  · rintro ⟨⟨a, b⟩, h⟩
    exact ⟨⟨a, fun i hi x => h i hi (by simp [x])⟩, ⟨b, fun i hi x => h i hi (by simp [x])⟩⟩
  · rintro ⟨⟨a, h⟩, ⟨b, k⟩⟩
    refine ⟨⟨a, b⟩, fun i hi x => ?_⟩
    rw [BitVec.getLsbD_or, Bool.or_eq_true] at x
    rcases x with x | x
    · exact h i hi x
    · exact k i hi x
theorem leq_meet {l s m t n u : Int} (hs : SetN s) (ht : SetN t) (hu : SetN u) : leqB n u (mnI l m) (andS s t) = (leqB n u l s && leqB n u m t) := by
  obtain ⟨S, rfl⟩ := set_bv hs
  obtain ⟨T, rfl⟩ := set_bv ht
  obtain ⟨U, rfl⟩ := set_bv hu
  rw [Bool.eq_iff_iff, Bool.and_eq_true, andS_bv, leqB_iff, leqB_iff, leqB_iff]
  have e : n ≤ mnI l m ↔ n ≤ l ∧ n ≤ m := by unfold mnI; split <;> omega
  rw [e]
  constructor
  · rintro ⟨⟨a, b⟩, h⟩
    refine ⟨⟨a, fun i hi x => ?_⟩, ⟨b, fun i hi x => ?_⟩⟩
    · have := h i hi x; rw [BitVec.getLsbD_and, Bool.and_eq_true] at this; exact this.1
    · have := h i hi x; rw [BitVec.getLsbD_and, Bool.and_eq_true] at this; exact this.2
  · rintro ⟨⟨a, h⟩, ⟨b, k⟩⟩
    refine ⟨⟨a, b⟩, fun i hi x => ?_⟩
    rw [BitVec.getLsbD_and, Bool.and_eq_true]
    exact ⟨h i hi x, k i hi x⟩
theorem leq_join_left {l s m t : Int} (hs : SetN s) (ht : SetN t) : leqB l s (mxI l m) (orS s t) = true := by
  have h := join_leq (l := l) (m := m) (n := mxI l m) hs ht (orS_set hs ht)
  rw [leq_refl _ (orS_set hs ht)] at h
  exact (Bool.and_eq_true_iff.1 h.symm).1
theorem leq_join_right {l s m t : Int} (hs : SetN s) (ht : SetN t) : leqB m t (mxI l m) (orS s t) = true := by
  have h := join_leq (l := l) (m := m) (n := mxI l m) hs ht (orS_set hs ht)
  rw [leq_refl _ (orS_set hs ht)] at h
  exact (Bool.and_eq_true_iff.1 h.symm).2
theorem meet_leq_left {l s m t : Int} (hs : SetN s) (ht : SetN t) : leqB (mnI l m) (andS s t) l s = true := by
  have h := leq_meet (l := l) (m := m) (n := mnI l m) hs ht (andS_set hs ht)
  rw [leq_refl _ (andS_set hs ht)] at h
  exact (Bool.and_eq_true_iff.1 h.symm).1
theorem meet_leq_right {l s m t : Int} (hs : SetN s) (ht : SetN t) : leqB (mnI l m) (andS s t) m t = true := by
  have h := leq_meet (l := l) (m := m) (n := mnI l m) hs ht (andS_set hs ht)
  rw [leq_refl _ (andS_set hs ht)] at h
  exact (Bool.and_eq_true_iff.1 h.symm).2
theorem join_meet {l s m t : Int} (hs : SetN s) (ht : SetN t) : mxI l (mnI l m) = l ∧ orS s (andS s t) = s := by
  refine ⟨by unfold mxI mnI; repeat' split <;> omega, ?_⟩
  obtain ⟨S, rfl⟩ := set_bv hs
  obtain ⟨T, rfl⟩ := set_bv ht
  rw [andS_bv, orS_bv]
  congr 2
  apply BitVec.eq_of_getLsbD_eq
  intro i hi
  simp only [BitVec.getLsbD_or, BitVec.getLsbD_and]
  cases S.getLsbD i <;> simp
theorem meet_join {l s m t : Int} (hs : SetN s) (ht : SetN t) : mnI l (mxI l m) = l ∧ andS s (orS s t) = s := by
  refine ⟨by unfold mxI mnI; repeat' split <;> omega, ?_⟩
  obtain ⟨S, rfl⟩ := set_bv hs
  obtain ⟨T, rfl⟩ := set_bv ht
  rw [orS_bv, andS_bv]
  congr 2
  apply BitVec.eq_of_getLsbD_eq
  intro i hi
  simp only [BitVec.getLsbD_or, BitVec.getLsbD_and]
  cases S.getLsbD i <;> simp

/-! ### What is taken off -/
theorem off_zero {l s m t : Int} (hm : 0 ≤ m) : sameB (offL l m) (offS s t) 0 0 = leqB l s m t := by
  rw [Bool.eq_iff_iff, sameB_iff, leqB, Bool.and_eq_true, decide_eq_true_iff, beq_iff_eq]
  have e : offL l m = 0 ↔ l ≤ m := by unfold offL; split <;> omega
  rw [e]
theorem off_leq {l s m t : Int} (hl : 0 ≤ l) (hs : SetN s) (ht : SetN t) : leqB (offL l m) (offS s t) l s = true := by
  obtain ⟨S, rfl⟩ := set_bv hs
  obtain ⟨T, rfl⟩ := set_bv ht
  rw [offS_bv, leqB_iff]
  refine ⟨by unfold offL; split <;> omega, fun i hi x => ?_⟩
  rw [BitVec.getLsbD_and, Bool.and_eq_true] at x
  exact x.1

/-! ### The same, bit by bit -/
def bitB (s i : Int) : Bool := (s / 2 ^ i.toNat).tmod 2 == 1
/-- What is added up, bit by bit, behind k rounds. -/
def acc (f : Nat → Bool) : Nat → Int
  | 0 => 0
  | k + 1 => if f k then IntKind.u16.wrap (acc f k + IntKind.u16.wrap (2 ^ k)) else acc f k

theorem bitB_bv (S : BitVec 16) (i : Nat) : bitB (S.toNat : Int) (i : Int) = S.getLsbD i := by
  have h : (((S.toNat : Nat) : Int) / 2 ^ ((i : Int)).toNat) = ((S.toNat / 2 ^ i : Nat) : Int) := by
    rw [Int.toNat_natCast]; simp
  unfold bitB
  rw [h, Int.tmod_eq_emod_of_nonneg (Int.natCast_nonneg _)]
  rw [BitVec.getLsbD, Nat.testBit_eq_decide_div_mod_eq, Bool.eq_iff_iff, beq_iff_eq, decide_eq_true_iff]
  omega

theorem two_pow_nat (k : Nat) : ((2 : Int) ^ k) = ((2 ^ k : Nat) : Int) := by simp

theorem acc_bv (S : BitVec 16) (f : Nat → Bool) (hf : ∀ i, i < 16 → f i = S.getLsbD i) : ∀ k, k ≤ 16 → acc f k = ((S.toNat % 2 ^ k : Nat) : Int)
  | 0, _ => by simp [acc, Nat.mod_one]
  | k + 1, h => by
    have ih := acc_bv S f hf k (by omega)
    have hk : 2 ^ k < 65536 := by
      have := Nat.pow_lt_pow_right (a := 2) (by omega) (show k < 16 by omega)
      simpa using this
    have hk1 : 2 ^ (k + 1) ≤ 65536 := by
      have := Nat.pow_le_pow_right (n := 2) (by omega) (show k + 1 ≤ 16 by omega)
      simpa using this
    have hm : S.toNat % 2 ^ (k + 1) < 2 ^ (k + 1) := Nat.mod_lt _ (Nat.two_pow_pos _)
    have hb := Nat.mod_pow_succ (b := 2) (x := S.toNat) (k := k)
    have ht : S.toNat.testBit k = decide (S.toNat / 2 ^ k % 2 = 1) := Nat.testBit_eq_decide_div_mod_eq
    unfold acc
    rw [hf k (by omega), ih, u16_wrap, u16_wrap, two_pow_nat]
    have hg : S.getLsbD k = S.toNat.testBit k := rfl
    rw [hg]
    cases hS : S.toNat.testBit k
    · have hz : S.toNat / 2 ^ k % 2 = 0 := by rw [hS] at ht; have := of_decide_eq_false ht.symm; omega
      rw [hz, Nat.mul_zero] at hb
      rw [if_neg (by simp)]
      omega
    · have hz : S.toNat / 2 ^ k % 2 = 1 := by rw [hS] at ht; exact of_decide_eq_true ht.symm
      rw [hz, Nat.mul_one] at hb
      rw [if_pos rfl, hb]
      rw [hb] at hm
      omega

theorem acc_full (S : BitVec 16) (f : Nat → Bool) (hf : ∀ i, i < 16 → f i = S.getLsbD i) : acc f 16 = (S.toNat : Int) := by
  rw [acc_bv S f hf 16 (Nat.le_refl _)]
  have := S.isLt
  rw [Nat.mod_eq_of_lt (by simpa using this)]

theorem acc_or {s t : Int} (hs : SetN s) (ht : SetN t) : acc (fun k => bitB s k || bitB t k) 16 = orS s t := by
  obtain ⟨S, rfl⟩ := set_bv hs
  obtain ⟨T, rfl⟩ := set_bv ht
  rw [orS_bv]
  exact acc_full (S ||| T) _ (fun i _ => by rw [bitB_bv, bitB_bv, BitVec.getLsbD_or])
theorem acc_and {s t : Int} (hs : SetN s) (ht : SetN t) : acc (fun k => bitB s k && bitB t k) 16 = andS s t := by
  obtain ⟨S, rfl⟩ := set_bv hs
  obtain ⟨T, rfl⟩ := set_bv ht
  rw [andS_bv]
  exact acc_full (S &&& T) _ (fun i _ => by rw [bitB_bv, bitB_bv, BitVec.getLsbD_and])
theorem acc_off {s t : Int} (hs : SetN s) (ht : SetN t) : acc (fun k => bitB s k && !bitB t k) 16 = offS s t := by
  obtain ⟨S, rfl⟩ := set_bv hs
  obtain ⟨T, rfl⟩ := set_bv ht
  rw [offS_bv]
  exact acc_full (S &&& ~~~T) _ (fun i hi => by rw [bitB_bv, bitB_bv, BitVec.getLsbD_and, BitVec.getLsbD_not]; simp [hi])

/-- No bit below k of the one is missing in the other. -/
def noneMissing (s t : Int) (k : Nat) : Prop := ∀ i : Nat, i < k → (bitB s i && !bitB t i) = false
theorem leq_bits {l s m t : Int} (hs : SetN s) (ht : SetN t) (h : noneMissing s t 16) : leqB l s m t = decide (l ≤ m) := by
  obtain ⟨S, rfl⟩ := set_bv hs
  obtain ⟨T, rfl⟩ := set_bv ht
  rw [Bool.eq_iff_iff, leqB_iff, decide_eq_true_iff]
  refine ⟨fun x => x.1, fun x => ⟨x, fun i hi hb => ?_⟩⟩
  have := h i hi
  rw [bitB_bv, bitB_bv, hb] at this
  simpa using this
theorem leq_bits_not {l s m t : Int} (hs : SetN s) (ht : SetN t) (k : Nat) (hk : k < 16) (h : (bitB s k && !bitB t k) = true) : leqB l s m t = false := by
  obtain ⟨S, rfl⟩ := set_bv hs
  obtain ⟨T, rfl⟩ := set_bv ht
  rw [Bool.eq_false_iff]
  intro x
  rw [leqB_iff] at x
  rw [bitB_bv, bitB_bv] at h
  have := x.2 k hk
  cases hS : S.getLsbD k <;> cases hT : T.getLsbD k <;> simp_all

/-! ### Texts -/
/-- The sixteen digits. -/
def sixteenL : List UInt8 := [48, 49, 50, 51, 52, 53, 54, 55, 56, 57, 97, 98, 99, 100, 101, 102]
/-- The digit for a number from 0 to 15, as a byte's number. -/
def hexC (d : Int) : Int := ((sixteenL.getD d.toNat 0).toNat : Int)
/-- A label's text, byte by byte. -/
def textN (l s : Int) : List Int := [hexC l, 58, hexC (s / 4096 % 16), hexC (s / 256 % 16), hexC (s / 16 % 16), hexC (s % 16)]

theorem hexC_range (d : Int) : 0 ≤ hexC d ∧ hexC d < 256 := by
  have := (sixteenL.getD d.toNat 0).toNat_lt
  unfold hexC
  omega

theorem wraps_u16 (n : Int) (h₀ : 0 ≤ n) (h₁ : n < 2 ^ 16) : IntKind.u16.wrap n = n := by rw [u16_wrap]; omega
theorem u16_and15 (x : Int) (h₀ : 0 ≤ x) (h₁ : x < 65536) : bits .and .u16 x 15 = x % 16 := bits_mask .u16 16 (by decide) wraps_u16 4 (by decide) x h₀ h₁

/-- The digit that the k-th round writes. -/
def digit (s : Int) (k : Nat) : Int := s / 2 ^ (12 - 4 * (k : Int)).toNat % 16
theorem text_snoc (l s : Int) (k : Nat) (hk : k < 4) : (textN l s).take (2 + k) ++ [hexC (digit s k)] = (textN l s).take (2 + (k + 1)) := by
  have : k = 0 ∨ k = 1 ∨ k = 2 ∨ k = 3 := by omega
  rcases this with rfl | rfl | rfl | rfl <;> simp [textN, digit]

/-! ### Texts, read -/
/-- The number that a byte is a digit for; -1: for none. -/
def hexI (c : Int) : Int := Lib.indexByte sixteenL c.toNat.toUInt8
theorem index_lt : ∀ (l : List UInt8) (c : UInt8), Lib.indexByte l c < l.length ∨ l = []
  | [], _ => .inr rfl
  | b :: l, c => .inl (by
    have := index_lt l c
    unfold Lib.indexByte
    split
    · simp only [List.length_cons]; omega
    · split
      · simp only [List.length_cons]; omega
      · rcases this with h | h
        · simp only [List.length_cons]; omega
        · subst h; simp_all [Lib.indexByte])
theorem hexI_range (c : Int) : -1 ≤ hexI c ∧ hexI c ≤ 15 := by
  refine ⟨Lib.indexByte_ge _ _, ?_⟩
  rcases index_lt sixteenL c.toNat.toUInt8 with h | h
  · have : (sixteenL.length : Int) = 16 := rfl
    unfold hexI; omega
  · exact absurd h (by decide)
/-- A byte of a text, as a number; 0 behind its end. -/
def byteN (s : ByteArray) (i : Nat) : Int := ((s.data.toList.getD i 0).toNat : Int)
theorem byteN_range (s : ByteArray) (i : Nat) : 0 ≤ byteN s i ∧ byteN s i < 256 := by
  have := (s.data.toList.getD i 0).toNat_lt
  unfold byteN; omega
theorem byteN_at (s : ByteArray) (i : Nat) (h : i < s.size) : ((s[i].toNat : Nat) : Int) = byteN s i := by
  unfold byteN
  have h' : i < s.data.toList.length := by simpa using h
  rw [List.getD, List.getElem?_eq_getElem h']
  rfl
/-- What k digits behind the colon come to. -/
def setV (s : ByteArray) : Nat → Int
  | 0 => 0
  | k + 1 => setV s k * 16 + hexI (byteN s (2 + k))
/-- The first k of them are digits. -/
def digitsTo (s : ByteArray) (k : Nat) : Prop := ∀ i, i < k → 0 ≤ hexI (byteN s (2 + i))
theorem setV_range (s : ByteArray) : ∀ k, digitsTo s k → 0 ≤ setV s k ∧ setV s k < 16 ^ k
  | 0, _ => by simp [setV]
  | k + 1, h => by
    have ih := setV_range s k (fun i hi => h i (by omega))
    have h1 := h k (by omega)
    have h2 := (hexI_range (byteN s (2 + k))).2
    unfold setV
    have : (16 : Int) ^ (k + 1) = 16 ^ k * 16 := Int.pow_succ 16 k
    omega
theorem set_next (x d : Int) (hx0 : 0 ≤ x) (hx : x < 4096) (hd0 : 0 ≤ d) (hd : d ≤ 15) : bits .or .u16 (IntKind.u16.wrap (x * 16)) (IntKind.u16.wrap d) = x * 16 + d := by
  rw [u16_wrap, u16_wrap, Int.emod_eq_of_lt (by omega) (by omega), Int.emod_eq_of_lt (by omega) (by omega)]
  exact bits_join .u16 16 (by decide) wraps_u16 4 (x * 16) d (by omega) (by omega) (by omega) hd0 (by omega) (by omega)

/-! ### Texts, read digit by digit, as the document's own reader does -/
theorem index_get : ∀ (l : List UInt8) (c : UInt8), 0 ≤ Lib.indexByte l c → l[(Lib.indexByte l c).toNat]? = some c
  | [], _ => by simp [Lib.indexByte]
  | b :: l, c => by
    unfold Lib.indexByte
    split
    · rename_i h; intro _; simpa using h
    · split
      · omega
      · rename_i h1 h2
        have hg := Lib.indexByte_ge l c
        have hne : Lib.indexByte l c ≠ -1 := by simpa using h2
        have ih := index_get l c (by omega)
        intro _
        have e : (Lib.indexByte l c + 1).toNat = (Lib.indexByte l c).toNat + 1 := by omega
        rw [e, List.getElem?_cons_succ]
        exact ih
theorem u8_back (c : Int) (h0 : 0 ≤ c) (h1 : c < 256) : ((c.toNat.toUInt8).toNat : Int) = c := by
  rw [Nat.toUInt8, UInt8.toNat_ofNat']
  omega
theorem hexC_hexI (c : Int) (h0 : 0 ≤ c) (h1 : c < 256) (h : 0 ≤ hexI c) : hexC (hexI c) = c := by
  have := index_get sixteenL c.toNat.toUInt8 h
  unfold hexC
  rw [List.getD]
  show (((sixteenL[(Lib.indexByte sixteenL c.toNat.toUInt8).toNat]?.getD 0).toNat : Nat) : Int) = c
  rw [this]
  exact u8_back c h0 h1
theorem hexI_hexC (d : Int) (h0 : 0 ≤ d) (h1 : d < 16) : hexI (hexC d) = d := by
  have : d = 0 ∨ d = 1 ∨ d = 2 ∨ d = 3 ∨ d = 4 ∨ d = 5 ∨ d = 6 ∨ d = 7 ∨ d = 8 ∨ d = 9 ∨ d = 10 ∨ d = 11 ∨ d = 12 ∨ d = 13 ∨ d = 14 ∨ d = 15 := by omega
  rcases this with rfl | rfl | rfl | rfl | rfl | rfl | rfl | rfl | rfl | rfl | rfl | rfl | rfl | rfl | rfl | rfl <;> decide
theorem hex_same (c d : Int) (h0 : 0 ≤ c) (h1 : c < 256) (hd0 : 0 ≤ d) (hd1 : d < 16) : (hexC d == c) = decide (hexI c = d) := by
  rw [Bool.eq_iff_iff, beq_iff_eq, decide_eq_true_iff]
  constructor
  · intro h; rw [← h]; exact hexI_hexC d hd0 hd1
  · intro h
    have := hexC_hexI c h0 h1 (by omega)
    rw [h] at this
    exact this
/-- One round of digits behind d tries. -/
def innV (x c : Int) (e : Nat) : Nat → Int
  | 0 => x
  | d + 1 => if hexI c = d then IntKind.u16.wrap (innV x c e d + IntKind.u16.wrap ((d : Int) * 2 ^ e)) else innV x c e d
theorem innV_is (x c : Int) (e : Nat) : ∀ d, innV x c e d = if 0 ≤ hexI c ∧ hexI c < d then IntKind.u16.wrap (x + IntKind.u16.wrap (hexI c * 2 ^ e)) else x
  | 0 => by simp [innV]; omega
  | d + 1 => by
    unfold innV
    rw [innV_is x c e d]
    by_cases h : hexI c = d
    · rw [if_pos h, if_neg (by omega), if_pos (by omega), h]
    · rw [if_neg h]
      by_cases h2 : 0 ≤ hexI c ∧ hexI c < d
      · rw [if_pos h2, if_pos (by omega)]
      · rw [if_neg h2, if_neg (by omega)]
/-- What k rounds of digits come to. -/
def refV (s : ByteArray) : Nat → Int
  | 0 => 0
  | k + 1 => innV (refV s k) (byteN s (2 + k)) (4 * (3 - k)) 16
theorem refV_range (s : ByteArray) : ∀ k, 0 ≤ refV s k ∧ refV s k < 65536
  | 0 => by simp [refV]
  | k + 1 => by
    have ih := refV_range s k
    unfold refV
    rw [innV_is]
    split
    · rw [u16_wrap]; omega
    · exact ih
theorem refV_good (s : ByteArray) (h : digitsTo s 4) : refV s 4 = setV s 4 := by
  have h0 := h 0 (by omega)
  have h1 := h 1 (by omega)
  have h2 := h 2 (by omega)
  have h3 := h 3 (by omega)
  have r0 := (hexI_range (byteN s (2 + 0))).2
  have r1 := (hexI_range (byteN s (2 + 1))).2
  have r2 := (hexI_range (byteN s (2 + 2))).2
  have r3 := (hexI_range (byteN s (2 + 3))).2
  simp only [refV, setV, innV_is, u16_wrap]
  rw [if_pos ⟨h3, by omega⟩, if_pos ⟨h2, by omega⟩, if_pos ⟨h1, by omega⟩, if_pos ⟨h0, by omega⟩]
  simp only [Nat.add_zero, Nat.reduceAdd] at *
  simp
  omega

/-- Is it a label's text? -/
def GoodText (s : ByteArray) : Prop := s.size = 6 ∧ byteN s 1 = 58 ∧ 0 ≤ hexI (byteN s 0) ∧ hexI (byteN s 0) ≤ 7 ∧ digitsTo s 4

/-- A label's text; the empty one, if it may not be. -/
def textOut (l t : Int) : ByteArray := if rightB l then strOfNums (textN l t) else ⟨#[]⟩
theorem textOut_yes {l : Int} (t : Int) (h : rightB l = true) : textOut l t = strOfNums (textN l t) := by simp [textOut, h]
theorem textOut_no {l : Int} (t : Int) (h : rightB l = false) : textOut l t = ⟨#[]⟩ := by simp [textOut, h]
theorem rightB_iff {l : Int} : rightB l = true ↔ 0 ≤ l ∧ l ≤ 7 := by simp [rightB]

/-! ### There and back -/
theorem strOfNums_six (a b c d e f : Int) (s : ByteArray) (h : strOfNums [a, b, c, d, e, f] = s) (ha : 0 ≤ a ∧ a < 256) (hb : 0 ≤ b ∧ b < 256) (hc : 0 ≤ c ∧ c < 256) (hd : 0 ≤ d ∧ d < 256) (he : 0 ≤ e ∧ e < 256) (hf : 0 ≤ f ∧ f < 256) :
    s.size = 6 ∧ byteN s 0 = a ∧ byteN s 1 = b ∧ byteN s 2 = c ∧ byteN s 3 = d ∧ byteN s 4 = e ∧ byteN s 5 = f := by
  subst h
  have u : ∀ c : Int, 0 ≤ c ∧ c < 256 → ((UInt8.ofNat c.toNat).toNat : Int) = c := fun c hc => by
    rw [UInt8.toNat_ofNat']; omega
  exact ⟨rfl, u a ha, u b hb, u c hc, u d hd, u e he, u f hf⟩
theorem six_strOfNums (s : ByteArray) (h : s.size = 6) : strOfNums [byteN s 0, byteN s 1, byteN s 2, byteN s 3, byteN s 4, byteN s 5] = s := by
  apply ByteArray.ext
  apply Array.ext'
  have hl : s.data.toList.length = 6 := by simpa using h
  obtain ⟨⟨l⟩⟩ := s
  simp only [] at hl
  match l, hl with
  | [a, b, c, d, e, f], _ => simp [strOfNums, byteN]

/-- A text that is some label's is a good one, and is read as that label. -/
theorem text_good {l t : Int} (s : ByteArray) (h0 : 0 ≤ l) (h7 : l ≤ 7) (ht : SetN t) (h : strOfNums (textN l t) = s) : GoodText s ∧ hexI (byteN s 0) = l ∧ setV s 4 = t := by
  obtain ⟨ht0, ht1⟩ := ht
  obtain ⟨e, e0, e1, e2, e3, e4, e5⟩ := strOfNums_six _ _ _ _ _ _ s h (hexC_range _) (by omega) (hexC_range _) (hexC_range _) (hexC_range _) (hexC_range _)
  have k0 : hexI (byteN s 0) = l := by rw [e0]; exact hexI_hexC l h0 (by omega)
  have k2 : hexI (byteN s 2) = t / 4096 % 16 := by rw [e2]; exact hexI_hexC _ (by omega) (by omega)
  have k3 : hexI (byteN s 3) = t / 256 % 16 := by rw [e3]; exact hexI_hexC _ (by omega) (by omega)
  have k4 : hexI (byteN s 4) = t / 16 % 16 := by rw [e4]; exact hexI_hexC _ (by omega) (by omega)
  have k5 : hexI (byteN s 5) = t % 16 := by rw [e5]; exact hexI_hexC _ (by omega) (by omega)
  refine ⟨⟨e, e1, by omega, by omega, fun i hi => ?_⟩, k0, ?_⟩
  · have : i = 0 ∨ i = 1 ∨ i = 2 ∨ i = 3 := by omega
    rcases this with rfl | rfl | rfl | rfl <;> simp only [Nat.add_zero, Nat.reduceAdd] <;> omega
  · simp only [setV, Nat.add_zero, Nat.reduceAdd, k2, k3, k4, k5]
    omega
/-- A good text is the text of the label that it is read as. -/
theorem good_text (s : ByteArray) (g : GoodText s) : strOfNums (textN (hexI (byteN s 0)) (setV s 4)) = s := by
  obtain ⟨h6, h1, h0, h7, hd⟩ := g
  have d0 := hd 0 (by omega)
  have d1 := hd 1 (by omega)
  have d2 := hd 2 (by omega)
  have d3 := hd 3 (by omega)
  have r0 := (hexI_range (byteN s (2 + 0))).2
  have r1 := (hexI_range (byteN s (2 + 1))).2
  have r2 := (hexI_range (byteN s (2 + 2))).2
  have r3 := (hexI_range (byteN s (2 + 3))).2
  have c0 := hexC_hexI (byteN s 0) (byteN_range s 0).1 (byteN_range s 0).2 h0
  have c2 := hexC_hexI (byteN s 2) (byteN_range s 2).1 (byteN_range s 2).2 d0
  have c3 := hexC_hexI (byteN s 3) (byteN_range s 3).1 (byteN_range s 3).2 d1
  have c4 := hexC_hexI (byteN s 4) (byteN_range s 4).1 (byteN_range s 4).2 d2
  have c5 := hexC_hexI (byteN s 5) (byteN_range s 5).1 (byteN_range s 5).2 d3
  simp only [Nat.add_zero, Nat.reduceAdd] at d0 d1 d2 d3 r0 r1 r2 r3
  have e2 : setV s 4 / 4096 % 16 = hexI (byteN s 2) := by simp only [setV, Nat.add_zero, Nat.reduceAdd]; omega
  have e3 : setV s 4 / 256 % 16 = hexI (byteN s 3) := by simp only [setV, Nat.add_zero, Nat.reduceAdd]; omega
  have e4 : setV s 4 / 16 % 16 = hexI (byteN s 4) := by simp only [setV, Nat.add_zero, Nat.reduceAdd]; omega
  have e5 : setV s 4 % 16 = hexI (byteN s 5) := by simp only [setV, Nat.add_zero, Nat.reduceAdd]; omega
  have hs := six_strOfNums s h6
  rw [h1] at hs
  unfold textN
  rw [e2, e3, e4, e5, c0, c2, c3, c4, c5]
  exact hs
/-- Unlike labels have unlike texts. -/
theorem text_inj {l s m t : Int} (h0 : 0 ≤ l) (h7 : l ≤ 7) (hs : SetN s) (k0 : 0 ≤ m) (k7 : m ≤ 7) (ht : SetN t) (h : strOfNums (textN l s) = strOfNums (textN m t)) : l = m ∧ s = t := by
  obtain ⟨_, a, b⟩ := text_good _ h0 h7 hs h
  obtain ⟨_, c, d⟩ := text_good _ k0 k7 ht rfl
  exact ⟨a.symm.trans c, b.symm.trans d⟩
theorem level_digit (c : Int) (h0 : 48 ≤ c) (h1 : c ≤ 55) : hexI c = c - 48 := by
  have : c = 48 ∨ c = 49 ∨ c = 50 ∨ c = 51 ∨ c = 52 ∨ c = 53 ∨ c = 54 ∨ c = 55 := by omega
  rcases this with rfl | rfl | rfl | rfl | rfl | rfl | rfl | rfl <;> decide
theorem level_digit_not (c : Int) (h0 : 0 ≤ c) (h1 : c < 256) (h : c < 48 ∨ 55 < c) : ¬ (0 ≤ hexI c ∧ hexI c ≤ 7) := fun g => by
  have k := hexC_hexI c h0 h1 g.1
  obtain ⟨g0, g1⟩ := g
  generalize hexI c = d at *
  have : d = 0 ∨ d = 1 ∨ d = 2 ∨ d = 3 ∨ d = 4 ∨ d = 5 ∨ d = 6 ∨ d = 7 := by omega
  rcases this with rfl | rfl | rfl | rfl | rfl | rfl | rfl | rfl <;> simp [hexC, sixteenL] at k <;> omega

end Go.Proofs.YtfjaibaidpbppaaGreatDoor
