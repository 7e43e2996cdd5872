/-
  Plain words of labels: levels (integers) and sets (numbers from 0 to 65535), their order, join, meet and what is taken off. No program is named here. What label's small functions (Right, Join, Meet, Leq, Less, Off, Over) answer, whatever they are given, and that they leave all memory that was there as it was. No conditions. What strings.IndexByte answers: the place of the first such byte, or -1. No conditions. What the document's own words for labels (package lockageref01: bit, Join, Meet, Leq, Off) answer, whatever they are given. No conditions. What label.Text answers: a label's text; the empty one, if the label may not be. Condition: Set is a number from 0 to 65535. What label.Parse answers: the label whose text it is; ErrForm, if it is none's. No conditions. What the document's own Text answers (package lockageref01), of a label that may be. What the document's own Parse answers (package lockageref01): the label whose text it is, and true; false, if it is none's. No conditions.
-/
import Derived.Laws.BitsLemmas
import Derived.Below
import Derived.Lib.Bytealg
import Derived.Laws.BytesArg
import Derived.Test.YtcddbpdebklhnaaGreatDoorRows
import Derived.WalkKit
import Derived.WalkSpells
import Derived.WalkLawsBesides
import Derived.Lib.Hide
import Derived.RegionTactic
import Derived.ChangeAlike
import Derived.Deep.Draws
import Derived.WalkSmall
namespace Go.Proofs.YtcddbpdebklhnaaGreatDoor

/-- The greater, the lesser of two levels. -/
def mxI (l m : Int) : Int := if l < m then m else l
def mnI (l m : Int) : Int := if m < l then m else l
def orS (s t : Int) : Int := bits .or .u16 s t
def andS (s t : Int) : Int := bits .and .u16 s t
def offS (s t : Int) : Int := bits .andNot .u16 s t
def offL (l m : Int) : Int := if m < l then l else 0
/-- Is the one below the other? -/
def leqB (l s m t : Int) : Bool := decide (l ≤ m) && (offS s t == 0)
/-- May it be? -/
def rightB (l : Int) : Bool := decide (0 ≤ l) && decide (l ≤ 7)
def sameB (l s m t : Int) : Bool := (l == m) && (s == t)
/-- A number that is a set. -/
def SetN (s : Int) : Prop := 0 ≤ s ∧ s < 65536

theorem u16_wrap (n : Int) : IntKind.u16.wrap n = n % 65536 := by simp [IntKind.wrap, IntKind.bits, IntKind.signed]

theorem set_bv {s : Int} (h : SetN s) : ∃ S : BitVec 16, s = (S.toNat : Int) := by
  obtain ⟨h0, h1⟩ := h
  refine ⟨BitVec.ofNat 16 s.toNat, ?_⟩
  rw [BitVec.toNat_ofNat]
  omega

theorem bv_set (S : BitVec 16) : SetN (S.toNat : Int) := ⟨by omega, by have := S.isLt; omega⟩

theorem orS_bv (S T : BitVec 16) : orS (S.toNat : Int) (T.toNat : Int) = ((S ||| T).toNat : Int) := by
  have h := (S ||| T).isLt
  have e : orS (S.toNat : Int) (T.toNat : Int) = ((S ||| T).toNat : Int) % 65536 := by
    rw [← u16_wrap]
    simp only [orS, bits, IntKind.bits, BitVec.ofInt_natCast, BitVec.ofNat_toNat, BitVec.setWidth_eq]
    rfl
  rw [e]; omega
theorem andS_bv (S T : BitVec 16) : andS (S.toNat : Int) (T.toNat : Int) = ((S &&& T).toNat : Int) := by
  have h := (S &&& T).isLt
  have e : andS (S.toNat : Int) (T.toNat : Int) = ((S &&& T).toNat : Int) % 65536 := by
    rw [← u16_wrap]
    simp only [andS, bits, IntKind.bits, BitVec.ofInt_natCast, BitVec.ofNat_toNat, BitVec.setWidth_eq]
    rfl
  rw [e]; omega
theorem offS_bv (S T : BitVec 16) : offS (S.toNat : Int) (T.toNat : Int) = ((S &&& ~~~T).toNat : Int) := by
  have h := (S &&& ~~~T).isLt
  have e : offS (S.toNat : Int) (T.toNat : Int) = ((S &&& ~~~T).toNat : Int) % 65536 := by
    rw [← u16_wrap]
    simp only [offS, bits, IntKind.bits, BitVec.ofInt_natCast, BitVec.ofNat_toNat, BitVec.setWidth_eq]
    rfl
  rw [e]; omega

theorem orS_set {s t : Int} (hs : SetN s) (ht : SetN t) : SetN (orS s t) := by
  obtain ⟨S, rfl⟩ := set_bv hs
  obtain ⟨T, rfl⟩ := set_bv ht
  rw [orS_bv]; exact bv_set _
theorem andS_set {s t : Int} (hs : SetN s) (ht : SetN t) : SetN (andS s t) := by
  obtain ⟨S, rfl⟩ := set_bv hs
  obtain ⟨T, rfl⟩ := set_bv ht
  rw [andS_bv]; exact bv_set _
theorem offS_set {s t : Int} (hs : SetN s) (ht : SetN t) : SetN (offS s t) := by
  obtain ⟨S, rfl⟩ := set_bv hs
  obtain ⟨T, rfl⟩ := set_bv ht
  rw [offS_bv]; exact bv_set _

theorem offS_zero (S T : BitVec 16) : (offS (S.toNat : Int) (T.toNat : Int) == 0) = true ↔ ∀ i : Nat, i < 16 → S.getLsbD i = true → T.getLsbD i = true := by
  rw [offS_bv]
  have e : ((((S &&& ~~~T).toNat : Int) == 0) = true) ↔ S &&& ~~~T = 0#16 := by
    rw [beq_iff_eq, ← BitVec.toNat_inj]
    simp only [BitVec.toNat_ofNat]
    omega
  rw [e]
  constructor
  · intro h i hi hs
    have := congrArg (fun b => b.getLsbD i) h
    simp only [BitVec.getLsbD_and, BitVec.getLsbD_not, hs, hi, decide_true, Bool.true_and, BitVec.getLsbD_zero] at this
    simpa using this
  · intro h
    apply BitVec.eq_of_getLsbD_eq
    intro i hi
    simp only [BitVec.getLsbD_and, BitVec.getLsbD_not, hi, decide_true, Bool.true_and, BitVec.getLsbD_zero]
    have := h i hi
    cases hS : S.getLsbD i
    · rfl
    · rw [this hS]; rfl

/-- Below, said of levels and bits. -/
theorem leqB_iff {l m : Int} (S T : BitVec 16) : leqB l (S.toNat : Int) m (T.toNat : Int) = true ↔ l ≤ m ∧ ∀ i : Nat, i < 16 → S.getLsbD i = true → T.getLsbD i = true := by
  rw [leqB, Bool.and_eq_true, offS_zero, decide_eq_true_iff]

theorem bv_same (S T : BitVec 16) (h : ∀ i : Nat, i < 16 → (S.getLsbD i = true ↔ T.getLsbD i = true)) : S = T := by
  apply BitVec.eq_of_getLsbD_eq
  intro i hi
  exact Bool.eq_iff_iff.2 (h i hi)

theorem sameB_iff {l s m t : Int} : sameB l s m t = true ↔ l = m ∧ s = t := by simp [sameB]

/-! ### The lattice -/
theorem leq_refl (l : Int) {s : Int} (hs : SetN s) : leqB l s l s = true := by
  obtain ⟨S, rfl⟩ := set_bv hs
  exact (leqB_iff S S).2 ⟨Int.le_refl _, fun _ _ h => h⟩
theorem leq_anti {l s m t : Int} (hs : SetN s) (ht : SetN t) (h : leqB l s m t = true) (k : leqB m t l s = true) : l = m ∧ s = t := by
  obtain ⟨S, rfl⟩ := set_bv hs
  obtain ⟨T, rfl⟩ := set_bv ht
  rw [leqB_iff] at h k
  refine ⟨by omega, ?_⟩
  rw [bv_same S T (fun i hi => ⟨h.2 i hi, k.2 i hi⟩)]
theorem leq_trans {l s m t n u : Int} (hs : SetN s) (ht : SetN t) (hu : SetN u) (h : leqB l s m t = true) (k : leqB m t n u = true) : leqB l s n u = true := by
  obtain ⟨S, rfl⟩ := set_bv hs
  obtain ⟨T, rfl⟩ := set_bv ht
  obtain ⟨U, rfl⟩ := set_bv hu
  rw [leqB_iff] at h k ⊢
  exact ⟨by omega, fun i hi x => k.2 i hi (h.2 i hi x)⟩
theorem join_leq {l s m t n u : Int} (hs : SetN s) (ht : SetN t) (hu : SetN u) : leqB (mxI l m) (orS s t) n u = (leqB l s n u && leqB m t n u) := by
  obtain ⟨S, rfl⟩ := set_bv hs
  obtain ⟨T, rfl⟩ := set_bv ht
  obtain ⟨U, rfl⟩ := set_bv hu
  rw [Bool.eq_iff_iff, Bool.and_eq_true, orS_bv, leqB_iff, leqB_iff, leqB_iff]
  have e : mxI l m ≤ n ↔ l ≤ n ∧ m ≤ n := by unfold mxI; split <;> omega
  rw [e]
  constructor
  · rintro ⟨⟨a, b⟩, h⟩
    exact ⟨⟨a, fun i hi x => h i hi (by simp [x])⟩, ⟨b, fun i hi x => h i hi (by simp [x])⟩⟩
  · rintro ⟨⟨a, h⟩, ⟨b, k⟩⟩
    refine ⟨⟨a, b⟩, fun i hi x => ?_⟩
    rw [BitVec.getLsbD_or, Bool.or_eq_true] at x
    rcases x with x | x
    · exact h i hi x
    · exact k i hi x
theorem leq_meet {l s m t n u : Int} (hs : SetN s) (ht : SetN t) (hu : SetN u) : leqB n u (mnI l m) (andS s t) = (leqB n u l s && leqB n u m t) := by
  obtain ⟨S, rfl⟩ := set_bv hs
  obtain ⟨T, rfl⟩ := set_bv ht
  obtain ⟨U, rfl⟩ := set_bv hu
  rw [Bool.eq_iff_iff, Bool.and_eq_true, andS_bv, leqB_iff, leqB_iff, leqB_iff]
  have e : n ≤ mnI l m ↔ n ≤ l ∧ n ≤ m := by unfold mnI; split <;> omega
  rw [e]
  constructor
  · rintro ⟨⟨a, b⟩, h⟩
    refine ⟨⟨a, fun i hi x => ?_⟩, ⟨b, fun i hi x => ?_⟩⟩
    · have := h i hi x; rw [BitVec.getLsbD_and, Bool.and_eq_true] at this; exact this.1
    · have := h i hi x; rw [BitVec.getLsbD_and, Bool.and_eq_true] at this; exact this.2
  · rintro ⟨⟨a, h⟩, ⟨b, k⟩⟩
    refine ⟨⟨a, b⟩, fun i hi x => ?_⟩
    rw [BitVec.getLsbD_and, Bool.and_eq_true]
    exact ⟨h i hi x, k i hi x⟩
theorem leq_join_left {l s m t : Int} (hs : SetN s) (ht : SetN t) : leqB l s (mxI l m) (orS s t) = true := by
  have h := join_leq (l := l) (m := m) (n := mxI l m) hs ht (orS_set hs ht)
  rw [leq_refl _ (orS_set hs ht)] at h
  exact (Bool.and_eq_true_iff.1 h.symm).1
theorem leq_join_right {l s m t : Int} (hs : SetN s) (ht : SetN t) : leqB m t (mxI l m) (orS s t) = true := by
  have h := join_leq (l := l) (m := m) (n := mxI l m) hs ht (orS_set hs ht)
  rw [leq_refl _ (orS_set hs ht)] at h
  exact (Bool.and_eq_true_iff.1 h.symm).2
theorem meet_leq_left {l s m t : Int} (hs : SetN s) (ht : SetN t) : leqB (mnI l m) (andS s t) l s = true := by
  have h := leq_meet (l := l) (m := m) (n := mnI l m) hs ht (andS_set hs ht)
  rw [leq_refl _ (andS_set hs ht)] at h
  exact (Bool.and_eq_true_iff.1 h.symm).1
theorem meet_leq_right {l s m t : Int} (hs : SetN s) (ht : SetN t) : leqB (mnI l m) (andS s t) m t = true := by
  have h := leq_meet (l := l) (m := m) (n := mnI l m) hs ht (andS_set hs ht)
  rw [leq_refl _ (andS_set hs ht)] at h
  exact (Bool.and_eq_true_iff.1 h.symm).2
theorem join_meet {l s m t : Int} (hs : SetN s) (ht : SetN t) : mxI l (mnI l m) = l ∧ orS s (andS s t) = s := by
  refine ⟨by unfold mxI mnI; repeat' split <;> omega, ?_⟩
  obtain ⟨S, rfl⟩ := set_bv hs
  obtain ⟨T, rfl⟩ := set_bv ht
  rw [andS_bv, orS_bv]
  congr 2
  apply BitVec.eq_of_getLsbD_eq
  intro i hi
  simp only [BitVec.getLsbD_or, BitVec.getLsbD_and]
  cases S.getLsbD i <;> simp
theorem meet_join {l s m t : Int} (hs : SetN s) (ht : SetN t) : mnI l (mxI l m) = l ∧ andS s (orS s t) = s := by
  refine ⟨by unfold mxI mnI; repeat' split <;> omega, ?_⟩
  obtain ⟨S, rfl⟩ := set_bv hs
  obtain ⟨T, rfl⟩ := set_bv ht
  rw [orS_bv, andS_bv]
  congr 2
  apply BitVec.eq_of_getLsbD_eq
  intro i hi
  simp only [BitVec.getLsbD_or, BitVec.getLsbD_and]
  cases S.getLsbD i <;> simp

/-! ### What is taken off -/
theorem off_zero {l s m t : Int} (hm : 0 ≤ m) : sameB (offL l m) (offS s t) 0 0 = leqB l s m t := by
  rw [Bool.eq_iff_iff, sameB_iff, leqB, Bool.and_eq_true, decide_eq_true_iff, beq_iff_eq]
  have e : offL l m = 0 ↔ l ≤ m := by unfold offL; split <;> omega
  rw [e]
theorem off_leq {l s m t : Int} (hl : 0 ≤ l) (hs : SetN s) (ht : SetN t) : leqB (offL l m) (offS s t) l s = true := by
  obtain ⟨S, rfl⟩ := set_bv hs
  obtain ⟨T, rfl⟩ := set_bv ht
  rw [offS_bv, leqB_iff]
  refine ⟨by unfold offL; split <;> omega, fun i hi x => ?_⟩
  rw [BitVec.getLsbD_and, Bool.and_eq_true] at x
  exact x.1

/-! ### The same, bit by bit -/
def bitB (s i : Int) : Bool := (s / 2 ^ i.toNat).tmod 2 == 1
/-- What is added up, bit by bit, behind k rounds. -/
def acc (f : Nat → Bool) : Nat → Int
  | 0 => 0
  | k + 1 => if f k then IntKind.u16.wrap (acc f k + IntKind.u16.wrap (2 ^ k)) else acc f k

theorem bitB_bv (S : BitVec 16) (i : Nat) : bitB (S.toNat : Int) (i : Int) = S.getLsbD i := by
  have h : (((S.toNat : Nat) : Int) / 2 ^ ((i : Int)).toNat) = ((S.toNat / 2 ^ i : Nat) : Int) := by
    rw [Int.toNat_natCast]; simp
  unfold bitB
  rw [h, Int.tmod_eq_emod_of_nonneg (Int.natCast_nonneg _)]
  rw [BitVec.getLsbD, Nat.testBit_eq_decide_div_mod_eq, Bool.eq_iff_iff, beq_iff_eq, decide_eq_true_iff]
  omega

theorem two_pow_nat (k : Nat) : ((2 : Int) ^ k) = ((2 ^ k : Nat) : Int) := by simp

theorem acc_bv (S : BitVec 16) (f : Nat → Bool) (hf : ∀ i, i < 16 → f i = S.getLsbD i) : ∀ k, k ≤ 16 → acc f k = ((S.toNat % 2 ^ k : Nat) : Int)
  | 0, _ => by simp [acc, Nat.mod_one]
  | k + 1, h => by
    have ih := acc_bv S f hf k (by omega)
    have hk : 2 ^ k < 65536 := by
      have := Nat.pow_lt_pow_right (a := 2) (by omega) (show k < 16 by omega)
      simpa using this
    have hk1 : 2 ^ (k + 1) ≤ 65536 := by
      have := Nat.pow_le_pow_right (n := 2) (by omega) (show k + 1 ≤ 16 by omega)
      simpa using this
    have hm : S.toNat % 2 ^ (k + 1) < 2 ^ (k + 1) := Nat.mod_lt _ (Nat.two_pow_pos _)
    have hb := Nat.mod_pow_succ (b := 2) (x := S.toNat) (k := k)
    have ht : S.toNat.testBit k = decide (S.toNat / 2 ^ k % 2 = 1) := Nat.testBit_eq_decide_div_mod_eq
    unfold acc
    rw [hf k (by omega), ih, u16_wrap, u16_wrap, two_pow_nat]
    have hg : S.getLsbD k = S.toNat.testBit k := rfl
    rw [hg]
    cases hS : S.toNat.testBit k
    · have hz : S.toNat / 2 ^ k % 2 = 0 := by rw [hS] at ht; have := of_decide_eq_false ht.symm; omega
      rw [hz, Nat.mul_zero] at hb
      rw [if_neg (by simp)]
      omega
    · have hz : S.toNat / 2 ^ k % 2 = 1 := by rw [hS] at ht; exact of_decide_eq_true ht.symm
      rw [hz, Nat.mul_one] at hb
      rw [if_pos rfl, hb]
      rw [hb] at hm
      omega

theorem acc_full (S : BitVec 16) (f : Nat → Bool) (hf : ∀ i, i < 16 → f i = S.getLsbD i) : acc f 16 = (S.toNat : Int) := by
  rw [acc_bv S f hf 16 (Nat.le_refl _)]
  have := S.isLt
  rw [Nat.mod_eq_of_lt (by simpa using this)]

theorem acc_or {s t : Int} (hs : SetN s) (ht : SetN t) : acc (fun k => bitB s k || bitB t k) 16 = orS s t := by
  obtain ⟨S, rfl⟩ := set_bv hs
  obtain ⟨T, rfl⟩ := set_bv ht
  rw [orS_bv]
  exact acc_full (S ||| T) _ (fun i _ => by rw [bitB_bv, bitB_bv, BitVec.getLsbD_or])
theorem acc_and {s t : Int} (hs : SetN s) (ht : SetN t) : acc (fun k => bitB s k && bitB t k) 16 = andS s t := by
  obtain ⟨S, rfl⟩ := set_bv hs
  obtain ⟨T, rfl⟩ := set_bv ht
  rw [andS_bv]
  exact acc_full (S &&& T) _ (fun i _ => by rw [bitB_bv, bitB_bv, BitVec.getLsbD_and])
theorem acc_off {s t : Int} (hs : SetN s) (ht : SetN t) : acc (fun k => bitB s k && !bitB t k) 16 = offS s t := by
  obtain ⟨S, rfl⟩ := set_bv hs
  obtain ⟨T, rfl⟩ := set_bv ht
  rw [offS_bv]
  exact acc_full (S &&& ~~~T) _ (fun i hi => by rw [bitB_bv, bitB_bv, BitVec.getLsbD_and, BitVec.getLsbD_not]; simp [hi])

/-- No bit below k of the one is missing in the other. -/
def noneMissing (s t : Int) (k : Nat) : Prop := ∀ i : Nat, i < k → (bitB s i && !bitB t i) = false
theorem leq_bits {l s m t : Int} (hs : SetN s) (ht : SetN t) (h : noneMissing s t 16) : leqB l s m t = decide (l ≤ m) := by
  obtain ⟨S, rfl⟩ := set_bv hs
  obtain ⟨T, rfl⟩ := set_bv ht
  rw [Bool.eq_iff_iff, leqB_iff, decide_eq_true_iff]
  refine ⟨fun x => x.1, fun x => ⟨x, fun i hi hb => ?_⟩⟩
  have := h i hi
  rw [bitB_bv, bitB_bv, hb] at this
  simpa using this
theorem leq_bits_not {l s m t : Int} (hs : SetN s) (ht : SetN t) (k : Nat) (hk : k < 16) (h : (bitB s k && !bitB t k) = true) : leqB l s m t = false := by
  obtain ⟨S, rfl⟩ := set_bv hs
  obtain ⟨T, rfl⟩ := set_bv ht
  rw [Bool.eq_false_iff]
  intro x
  rw [leqB_iff] at x
  rw [bitB_bv, bitB_bv] at h
  have := x.2 k hk
  cases hS : S.getLsbD k <;> cases hT : T.getLsbD k <;> simp_all

/-! ### Texts -/
/-- The sixteen digits. -/
def sixteenL : List UInt8 := [48, 49, 50, 51, 52, 53, 54, 55, 56, 57, 97, 98, 99, 100, 101, 102]
/-- The digit for a number from 0 to 15, as a byte's number. -/
def hexC (d : Int) : Int := ((sixteenL.getD d.toNat 0).toNat : Int)
/-- A label's text, byte by byte. -/
def textN (l s : Int) : List Int := [hexC l, 58, hexC (s / 4096 % 16), hexC (s / 256 % 16), hexC (s / 16 % 16), hexC (s % 16)]

theorem hexC_range (d : Int) : 0 ≤ hexC d ∧ hexC d < 256 := by
  have := (sixteenL.getD d.toNat 0).toNat_lt
  unfold hexC
  omega

theorem wraps_u16 (n : Int) (h₀ : 0 ≤ n) (h₁ : n < 2 ^ 16) : IntKind.u16.wrap n = n := by rw [u16_wrap]; omega
theorem u16_and15 (x : Int) (h₀ : 0 ≤ x) (h₁ : x < 65536) : bits .and .u16 x 15 = x % 16 := bits_mask .u16 16 (by decide) wraps_u16 4 (by decide) x h₀ h₁

/-- The digit that the k-th round writes. -/
def digit (s : Int) (k : Nat) : Int := s / 2 ^ (12 - 4 * (k : Int)).toNat % 16
theorem text_snoc (l s : Int) (k : Nat) (hk : k < 4) : (textN l s).take (2 + k) ++ [hexC (digit s k)] = (textN l s).take (2 + (k + 1)) := by
  have : k = 0 ∨ k = 1 ∨ k = 2 ∨ k = 3 := by omega
  rcases this with rfl | rfl | rfl | rfl <;> simp [textN, digit]

/-! ### Texts, read -/
/-- The number that a byte is a digit for; -1: for none. -/
def hexI (c : Int) : Int := Lib.indexByte sixteenL c.toNat.toUInt8
theorem index_lt : ∀ (l : List UInt8) (c : UInt8), Lib.indexByte l c < l.length ∨ l = []
  | [], _ => .inr rfl
  | b :: l, c => .inl (by
    have := index_lt l c
    unfold Lib.indexByte
    split
    · simp only [List.length_cons]; omega
    · split
      · simp only [List.length_cons]; omega
      · rcases this with h | h
        · simp only [List.length_cons]; omega
        · subst h; simp_all [Lib.indexByte])
theorem hexI_range (c : Int) : -1 ≤ hexI c ∧ hexI c ≤ 15 := by
  refine ⟨Lib.indexByte_ge _ _, ?_⟩
  rcases index_lt sixteenL c.toNat.toUInt8 with h | h
  · have : (sixteenL.length : Int) = 16 := rfl
    unfold hexI; omega
  · exact absurd h (by decide)
/-- A byte of a text, as a number; 0 behind its end. -/
def byteN (s : ByteArray) (i : Nat) : Int := ((s.data.toList.getD i 0).toNat : Int)
theorem byteN_range (s : ByteArray) (i : Nat) : 0 ≤ byteN s i ∧ byteN s i < 256 := by
  have := (s.data.toList.getD i 0).toNat_lt
  unfold byteN; omega
theorem byteN_at (s : ByteArray) (i : Nat) (h : i < s.size) : ((s[i].toNat : Nat) : Int) = byteN s i := by
  unfold byteN
  have h' : i < s.data.toList.length := by simpa using h
  rw [List.getD, List.getElem?_eq_getElem h']
  rfl
/-- What k digits behind the colon come to. -/
def setV (s : ByteArray) : Nat → Int
  | 0 => 0
  | k + 1 => setV s k * 16 + hexI (byteN s (2 + k))
/-- The first k of them are digits. -/
def digitsTo (s : ByteArray) (k : Nat) : Prop := ∀ i, i < k → 0 ≤ hexI (byteN s (2 + i))
theorem setV_range (s : ByteArray) : ∀ k, digitsTo s k → 0 ≤ setV s k ∧ setV s k < 16 ^ k
  | 0, _ => by simp [setV]
  | k + 1, h => by
    have ih := setV_range s k (fun i hi => h i (by omega))
    have h1 := h k (by omega)
    have h2 := (hexI_range (byteN s (2 + k))).2
    unfold setV
    have : (16 : Int) ^ (k + 1) = 16 ^ k * 16 := Int.pow_succ 16 k
    omega
theorem set_next (x d : Int) (hx0 : 0 ≤ x) (hx : x < 4096) (hd0 : 0 ≤ d) (hd : d ≤ 15) : bits .or .u16 (IntKind.u16.wrap (x * 16)) (IntKind.u16.wrap d) = x * 16 + d := by
  rw [u16_wrap, u16_wrap, Int.emod_eq_of_lt (by omega) (by omega), Int.emod_eq_of_lt (by omega) (by omega)]
  exact bits_join .u16 16 (by decide) wraps_u16 4 (x * 16) d (by omega) (by omega) (by omega) hd0 (by omega) (by omega)

/-! ### Texts, read digit by digit, as the document's own reader does -/
theorem index_get : ∀ (l : List UInt8) (c : UInt8), 0 ≤ Lib.indexByte l c → l[(Lib.indexByte l c).toNat]? = some c
  | [], _ => by simp [Lib.indexByte]
  | b :: l, c => by
    unfold Lib.indexByte
    split
    · rename_i h; intro _; simpa using h
    · split
      · omega
      · rename_i h1 h2
        have hg := Lib.indexByte_ge l c
        have hne : Lib.indexByte l c ≠ -1 := by simpa using h2
        have ih := index_get l c (by omega)
        intro _
        have e : (Lib.indexByte l c + 1).toNat = (Lib.indexByte l c).toNat + 1 := by omega
        rw [e, List.getElem?_cons_succ]
        exact ih
theorem u8_back (c : Int) (h0 : 0 ≤ c) (h1 : c < 256) : ((c.toNat.toUInt8).toNat : Int) = c := by
  rw [Nat.toUInt8, UInt8.toNat_ofNat']
  omega
theorem hexC_hexI (c : Int) (h0 : 0 ≤ c) (h1 : c < 256) (h : 0 ≤ hexI c) : hexC (hexI c) = c := by
  have := index_get sixteenL c.toNat.toUInt8 h
  unfold hexC
  rw [List.getD]
  show (((sixteenL[(Lib.indexByte sixteenL c.toNat.toUInt8).toNat]?.getD 0).toNat : Nat) : Int) = c
  rw [this]
  exact u8_back c h0 h1
theorem hexI_hexC (d : Int) (h0 : 0 ≤ d) (h1 : d < 16) : hexI (hexC d) = d := by
  have : d = 0 ∨ d = 1 ∨ d = 2 ∨ d = 3 ∨ d = 4 ∨ d = 5 ∨ d = 6 ∨ d = 7 ∨ d = 8 ∨ d = 9 ∨ d = 10 ∨ d = 11 ∨ d = 12 ∨ d = 13 ∨ d = 14 ∨ d = 15 := by omega
  rcases this with rfl | rfl | rfl | rfl | rfl | rfl | rfl | rfl | rfl | rfl | rfl | rfl | rfl | rfl | rfl | rfl <;> decide
theorem hex_same (c d : Int) (h0 : 0 ≤ c) (h1 : c < 256) (hd0 : 0 ≤ d) (hd1 : d < 16) : (hexC d == c) = decide (hexI c = d) := by
  rw [Bool.eq_iff_iff, beq_iff_eq, decide_eq_true_iff]
  constructor
  · intro h; rw [← h]; exact hexI_hexC d hd0 hd1
  · intro h
    have := hexC_hexI c h0 h1 (by omega)
    rw [h] at this
    exact this
/-- One round of digits behind d tries. -/
def innV (x c : Int) (e : Nat) : Nat → Int
  | 0 => x
  | d + 1 => if hexI c = d then IntKind.u16.wrap (innV x c e d + IntKind.u16.wrap ((d : Int) * 2 ^ e)) else innV x c e d
theorem innV_is (x c : Int) (e : Nat) : ∀ d, innV x c e d = if 0 ≤ hexI c ∧ hexI c < d then IntKind.u16.wrap (x + IntKind.u16.wrap (hexI c * 2 ^ e)) else x
  | 0 => by simp [innV]; omega
  | d + 1 => by
    unfold innV
    rw [innV_is x c e d]
    by_cases h : hexI c = d
    · rw [if_pos h, if_neg (by omega), if_pos (by omega), h]
    · rw [if_neg h]
      by_cases h2 : 0 ≤ hexI c ∧ hexI c < d
      · rw [if_pos h2, if_pos (by omega)]
      · rw [if_neg h2, if_neg (by omega)]
/-- What k rounds of digits come to. -/
def refV (s : ByteArray) : Nat → Int
  | 0 => 0
  | k + 1 => innV (refV s k) (byteN s (2 + k)) (4 * (3 - k)) 16
theorem refV_range (s : ByteArray) : ∀ k, 0 ≤ refV s k ∧ refV s k < 65536
  | 0 => by simp [refV]
  | k + 1 => by
    have ih := refV_range s k
    unfold refV
    rw [innV_is]
    split
    · rw [u16_wrap]; omega
    · exact ih
theorem refV_good (s : ByteArray) (h : digitsTo s 4) : refV s 4 = setV s 4 := by
  have h0 := h 0 (by omega)
  have h1 := h 1 (by omega)
  have h2 := h 2 (by omega)
  have h3 := h 3 (by omega)
  have r0 := (hexI_range (byteN s (2 + 0))).2
  have r1 := (hexI_range (byteN s (2 + 1))).2
  have r2 := (hexI_range (byteN s (2 + 2))).2
  have r3 := (hexI_range (byteN s (2 + 3))).2
  simp only [refV, setV, innV_is, u16_wrap]
  rw [if_pos ⟨h3, by omega⟩, if_pos ⟨h2, by omega⟩, if_pos ⟨h1, by omega⟩, if_pos ⟨h0, by omega⟩]
  simp only [Nat.add_zero, Nat.reduceAdd] at *
  simp
  omega

/-- Is it a label's text? -/
def GoodText (s : ByteArray) : Prop := s.size = 6 ∧ byteN s 1 = 58 ∧ 0 ≤ hexI (byteN s 0) ∧ hexI (byteN s 0) ≤ 7 ∧ digitsTo s 4

/-- A label's text; the empty one, if it may not be. -/
def textOut (l t : Int) : ByteArray := if rightB l then strOfNums (textN l t) else ⟨#[]⟩
theorem textOut_yes {l : Int} (t : Int) (h : rightB l = true) : textOut l t = strOfNums (textN l t) := by simp [textOut, h]
theorem textOut_no {l : Int} (t : Int) (h : rightB l = false) : textOut l t = ⟨#[]⟩ := by simp [textOut, h]
theorem rightB_iff {l : Int} : rightB l = true ↔ 0 ≤ l ∧ l ≤ 7 := by simp [rightB]

/-! ### There and back -/
theorem strOfNums_six (a b c d e f : Int) (s : ByteArray) (h : strOfNums [a, b, c, d, e, f] = s) (ha : 0 ≤ a ∧ a < 256) (hb : 0 ≤ b ∧ b < 256) (hc : 0 ≤ c ∧ c < 256) (hd : 0 ≤ d ∧ d < 256) (he : 0 ≤ e ∧ e < 256) (hf : 0 ≤ f ∧ f < 256) :
    s.size = 6 ∧ byteN s 0 = a ∧ byteN s 1 = b ∧ byteN s 2 = c ∧ byteN s 3 = d ∧ byteN s 4 = e ∧ byteN s 5 = f := by
  subst h
  have u : ∀ c : Int, 0 ≤ c ∧ c < 256 → ((UInt8.ofNat c.toNat).toNat : Int) = c := fun c hc => by
    rw [UInt8.toNat_ofNat']; omega
  exact ⟨rfl, u a ha, u b hb, u c hc, u d hd, u e he, u f hf⟩
theorem six_strOfNums (s : ByteArray) (h : s.size = 6) : strOfNums [byteN s 0, byteN s 1, byteN s 2, byteN s 3, byteN s 4, byteN s 5] = s := by
  apply ByteArray.ext
  apply Array.ext'
  have hl : s.data.toList.length = 6 := by simpa using h
  obtain ⟨⟨l⟩⟩ := s
  simp only [] at hl
  match l, hl with
  | [a, b, c, d, e, f], _ => simp [strOfNums, byteN]

/-- A text that is some label's is a good one, and is read as that label. -/
theorem text_good {l t : Int} (s : ByteArray) (h0 : 0 ≤ l) (h7 : l ≤ 7) (ht : SetN t) (h : strOfNums (textN l t) = s) : GoodText s ∧ hexI (byteN s 0) = l ∧ setV s 4 = t := by
  obtain ⟨ht0, ht1⟩ := ht
  obtain ⟨e, e0, e1, e2, e3, e4, e5⟩ := strOfNums_six _ _ _ _ _ _ s h (hexC_range _) (by omega) (hexC_range _) (hexC_range _) (hexC_range _) (hexC_range _)
  have k0 : hexI (byteN s 0) = l := by rw [e0]; exact hexI_hexC l h0 (by omega)
  have k2 : hexI (byteN s 2) = t / 4096 % 16 := by rw [e2]; exact hexI_hexC _ (by omega) (by omega)
  have k3 : hexI (byteN s 3) = t / 256 % 16 := by rw [e3]; exact hexI_hexC _ (by omega) (by omega)
  have k4 : hexI (byteN s 4) = t / 16 % 16 := by rw [e4]; exact hexI_hexC _ (by omega) (by omega)
  have k5 : hexI (byteN s 5) = t % 16 := by rw [e5]; exact hexI_hexC _ (by omega) (by omega)
  refine ⟨⟨e, e1, by omega, by omega, fun i hi => ?_⟩, k0, ?_⟩
  · have : i = 0 ∨ i = 1 ∨ i = 2 ∨ i = 3 := by omega
    rcases this with rfl | rfl | rfl | rfl <;> simp only [Nat.add_zero, Nat.reduceAdd] <;> omega
  · simp only [setV, Nat.add_zero, Nat.reduceAdd, k2, k3, k4, k5]
    omega
/-- A good text is the text of the label that it is read as. -/
theorem good_text (s : ByteArray) (g : GoodText s) : strOfNums (textN (hexI (byteN s 0)) (setV s 4)) = s := by
  obtain ⟨h6, h1, h0, h7, hd⟩ := g
  have d0 := hd 0 (by omega)
  have d1 := hd 1 (by omega)
  have d2 := hd 2 (by omega)
  have d3 := hd 3 (by omega)
  have r0 := (hexI_range (byteN s (2 + 0))).2
  have r1 := (hexI_range (byteN s (2 + 1))).2
  have r2 := (hexI_range (byteN s (2 + 2))).2
  have r3 := (hexI_range (byteN s (2 + 3))).2
  have c0 := hexC_hexI (byteN s 0) (byteN_range s 0).1 (byteN_range s 0).2 h0
  have c2 := hexC_hexI (byteN s 2) (byteN_range s 2).1 (byteN_range s 2).2 d0
  have c3 := hexC_hexI (byteN s 3) (byteN_range s 3).1 (byteN_range s 3).2 d1
  have c4 := hexC_hexI (byteN s 4) (byteN_range s 4).1 (byteN_range s 4).2 d2
  have c5 := hexC_hexI (byteN s 5) (byteN_range s 5).1 (byteN_range s 5).2 d3
  simp only [Nat.add_zero, Nat.reduceAdd] at d0 d1 d2 d3 r0 r1 r2 r3
  have e2 : setV s 4 / 4096 % 16 = hexI (byteN s 2) := by simp only [setV, Nat.add_zero, Nat.reduceAdd]; omega
  have e3 : setV s 4 / 256 % 16 = hexI (byteN s 3) := by simp only [setV, Nat.add_zero, Nat.reduceAdd]; omega
  have e4 : setV s 4 / 16 % 16 = hexI (byteN s 4) := by simp only [setV, Nat.add_zero, Nat.reduceAdd]; omega
  have e5 : setV s 4 % 16 = hexI (byteN s 5) := by simp only [setV, Nat.add_zero, Nat.reduceAdd]; omega
  have hs := six_strOfNums s h6
  rw [h1] at hs
  unfold textN
  rw [e2, e3, e4, e5, c0, c2, c3, c4, c5]
  exact hs
/-- Unlike labels have unlike texts. -/
theorem text_inj {l s m t : Int} (h0 : 0 ≤ l) (h7 : l ≤ 7) (hs : SetN s) (k0 : 0 ≤ m) (k7 : m ≤ 7) (ht : SetN t) (h : strOfNums (textN l s) = strOfNums (textN m t)) : l = m ∧ s = t := by
  obtain ⟨_, a, b⟩ := text_good _ h0 h7 hs h
  obtain ⟨_, c, d⟩ := text_good _ k0 k7 ht rfl
  exact ⟨a.symm.trans c, b.symm.trans d⟩
theorem level_digit (c : Int) (h0 : 48 ≤ c) (h1 : c ≤ 55) : hexI c = c - 48 := by
  have : c = 48 ∨ c = 49 ∨ c = 50 ∨ c = 51 ∨ c = 52 ∨ c = 53 ∨ c = 54 ∨ c = 55 := by omega
  rcases this with rfl | rfl | rfl | rfl | rfl | rfl | rfl | rfl <;> decide
theorem level_digit_not (c : Int) (h0 : 0 ≤ c) (h1 : c < 256) (h : c < 48 ∨ 55 < c) : ¬ (0 ≤ hexI c ∧ hexI c ≤ 7) := fun g => by
  have k := hexC_hexI c h0 h1 g.1
  obtain ⟨g0, g1⟩ := g
  generalize hexI c = d at *
  have : d = 0 ∨ d = 1 ∨ d = 2 ∨ d = 3 ∨ d = 4 ∨ d = 5 ∨ d = 6 ∨ d = 7 := by omega
  rcases this with rfl | rfl | rfl | rfl | rfl | rfl | rfl | rfl <;> simp [hexC, sixteenL] at k <;> omega

end Go.Proofs.YtcddbpdebklhnaaGreatDoor

namespace Go.Proofs.YtcddbpdebklhnaaGreatDoor
open Go.RowKit

theorem bcell {W w1 : World} (hb : Below W.heap.size W w1) : (∀ b o, b < W.heap.size → w1.cell? ⟨b, o, none⟩ = W.cell? ⟨b, o, none⟩) ∧ (∀ b o, b < W.heap.size → w1.frozen? ⟨b, o, none⟩ = W.frozen? ⟨b, o, none⟩) :=
  ⟨fun b o h => hb.cell (p := ⟨b, o, none⟩) h, fun b o h => hb.frozen (p := ⟨b, o, none⟩) h⟩

/-- Two labels held against each other. -/
@[go_sem ↓] theorem eqLab (a b c d : Int) (w : World) : (Op.equalIn 10000 41 (.agg #[.int .i64 a, .int .u16 b]) (.agg #[.int .i64 c, .int .u16 d])).run Tryz.prog w = .ok (sameB a b c d) w := by
  have hS : Tryz.prog.underlying 41 = some (.struct (Tryz.prog.fieldsOf 41)) := by kernel_rfl
  rw [show (10000 : Nat) = 9999 + 1 from rfl, run_equalIn_agg w 9999 41 _ _ hS (by kernel_rfl)]
  have e : (Tryz.prog.fieldsOf 41).toList = (Tryz.prog.fieldsOf 40).toList := by kernel_rfl
  simp only [Program.fieldsOf, Tryz.underlying41]
  go_simp
  unfold sameB
  by_cases h1 : a = c <;> by_cases h2 : b = d <;> simp [h1, h2]

theorem ret_bool {a b : Bool} (h : a = b) : Ending.returned (.bool a) = .returned (.bool b) := by rw [h]

set_option maxHeartbeats 400000 in
set_option maxRecDepth 100000 in
theorem right_is (l s : Int) (r : Bool) (hr : rightB l = r) (w : World) :
    Calls Tryz.prog 36 #[.agg #[.int .i64 l, .int .u16 s]] w fun e w' => e = .returned (.bool r) ∧ Below w.heap.size w w' := by
  have H := Lib.hid hr
  clear hr
  go_enter Tryz.func36, Tryz.ntmps36
  go_wp2
  all_goals
    go_ret
    exact ⟨ret_bool (by rw [← H.out]; simp [rightB]; try omega), (Below.refl _ _).alloc (Nat.le_refl _) _⟩

set_option maxHeartbeats 400000 in
set_option maxRecDepth 100000 in
theorem right_exact (l s : Int) (r : Bool) (hr : rightB l = r) (w : World) :
    Calls Tryz.prog 36 #[.agg #[.int .i64 l, .int .u16 s]] w fun e w' => e = .returned (.bool r) ∧ w.alloc (.cells #[.int .i64 l, .int .u16 s] 41) = w' := by
  have H := Lib.hid hr
  clear hr
  go_enter Tryz.func36, Tryz.ntmps36
  go_wp2
  all_goals
    go_ret
    exact ⟨ret_bool (by rw [← H.out]; simp [rightB]; try omega), rfl⟩

set_option maxHeartbeats 400000 in
set_option maxRecDepth 100000 in
theorem refright_is (l s : Int) (r : Bool) (hr : rightB l = r) (w : World) :
    Calls Tryz.prog 18 #[.agg #[.int .i64 l, .int .u16 s]] w fun e w' => e = .returned (.bool r) ∧ Below w.heap.size w w' := by
  have H := Lib.hid hr
  clear hr
  go_enter Tryz.func18, Tryz.ntmps18
  go_wp2
  all_goals
    go_ret
    exact ⟨ret_bool (by rw [← H.out]; simp [rightB]; try omega), (Below.refl _ _).alloc (Nat.le_refl _) _⟩

set_option maxHeartbeats 400000 in
set_option maxRecDepth 100000 in
theorem leq_is (l s m t : Int) (r : Bool) (hr : leqB l s m t = r) (w : World) :
    Calls Tryz.prog 64 #[.agg #[.int .i64 l, .int .u16 s], .agg #[.int .i64 m, .int .u16 t]] w fun e w' => e = .returned (.bool r) ∧ Below w.heap.size w w' := by
  have H := Lib.hid hr
  clear hr
  go_enter Tryz.func64, Tryz.ntmps64
  go_wp2
  all_goals
    go_ret
    exact ⟨ret_bool (by rw [← H.out]; simp [leqB, offS]; try omega), ((Below.refl _ _).alloc (Nat.le_refl _) _).alloc (by simp) _⟩

set_option maxHeartbeats 400000 in
set_option maxRecDepth 100000 in
theorem over_is (l s m t : Int) (r : Bool) (hr : leqB m t l s = r) (w : World) :
    Calls Tryz.prog 51 #[.agg #[.int .i64 l, .int .u16 s], .agg #[.int .i64 m, .int .u16 t]] w fun e w' => e = .returned (.bool r) ∧ Below w.heap.size w w' := by
  go_enter Tryz.func51, Tryz.ntmps51
  go_wp2_with (go_at_call 64; refine (leq_is _ _ _ _ r hr _).mono ?_; rintro e w1 ⟨rfl, hb⟩)
  go_ret
  exact ⟨rfl, (((Below.refl _ _).alloc (Nat.le_refl _) _).alloc (by simp) _).trans (hb.mono (by simp; omega))⟩

set_option maxHeartbeats 400000 in
set_option maxRecDepth 100000 in
theorem off_is (l s m t : Int) (w : World) :
    Calls Tryz.prog 52 #[.agg #[.int .i64 l, .int .u16 s], .agg #[.int .i64 m, .int .u16 t]] w fun e w' => e = .returned (.agg #[.int .i64 (offL l m), .int .u16 (offS s t)]) ∧ Below w.heap.size w w' := by
  go_enter Tryz.func52, Tryz.ntmps52
  go_wp2
  all_goals
    refine bodyPost_ret (v := .agg #[.int .i64 (offL l m), .int .u16 (offS s t)]) (by unfold offL offS; (first | rw [if_pos (by assumption)] | rw [if_neg (by omega)]); simp [results, Tryz.results52, go_sem]) rfl ⟨rfl, ?_⟩
    exact ((((Below.refl _ _).alloc (Nat.le_refl _) _).alloc (by simp) _).alloc (by simp; omega) _).alloc (by simp; omega) _

end Go.Proofs.YtcddbpdebklhnaaGreatDoor

namespace Go.Proofs.YtcddbpdebklhnaaGreatDoor
open Go.RowKit

end Go.Proofs.YtcddbpdebklhnaaGreatDoor

namespace Go.Proofs.YtcddbpdebklhnaaGreatDoor
open Go.RowKit

set_option maxHeartbeats 400000 in
set_option maxRecDepth 100000 in
theorem bit_any (s i : Int) (hi : 0 ≤ i) (hi' : i < 16) (w : World) :
    Calls Tryz.prog 29 #[.int .u16 s, .int .i64 i] w fun e w' => e = .returned (.bool (bitB s i)) ∧ w = w' := by
  go_enter Tryz.func29, Tryz.ntmps29
  go_wp2
  go_ret
  exact ⟨rfl, rfl⟩

@[go_sem] theorem setCell_drewN (w : World) (n : Nat) (a : Addr) (v : Value) : (w.drewN n).setCell a v = (w.setCell a v).drewN n := rfl

/-- The world in the middle of such a loop: the two labels that came in, the answer's place, what was added up so far; and draws. -/
abbrev midW (w : World) (l s m t lv a : Int) (n : Nat) : World :=
  ((((w.alloc (.cells #[.int .i64 l, .int .u16 s] 41)).alloc (.cells #[.int .i64 m, .int .u16 t] 41)).alloc (.cells #[.int .i64 0, .int .u16 0] 41)).alloc (.cells #[.int .i64 lv, .int .u16 a] 41)).drewN n

theorem acc_no {f : Nat → Bool} {k : Nat} (h : f k = false) : acc f (k + 1) = acc f k := by simp [acc, h]
theorem acc_yes {f : Nat → Bool} {k : Nat} (h : f k = true) : acc f (k + 1) = IntKind.u16.wrap (acc f k + IntKind.u16.wrap (2 ^ k)) := by simp [acc, h]

set_option maxHeartbeats 1000000 in
set_option maxRecDepth 100000 in
theorem refjoin_is (l s m t : Int) (w : World) :
    Calls Tryz.prog 14 #[.agg #[.int .i64 l, .int .u16 s], .agg #[.int .i64 m, .int .u16 t]] w fun e w' => e = .returned (.agg #[.int .i64 (mxI l m), .int .u16 (acc (fun k => bitB s k || bitB t k) 16)]) ∧ Below w.heap.size w w' := by
  by_cases h : l < m
  · have HL := Lib.hid (show mxI l m = m by unfold mxI; rw [if_pos h])
    generalize mxI l m = lw at *
    go_enter Tryz.func14, Tryz.ntmps14
    go_wp2_with fail
    go_loopw [6] (fun i wr => ∃ k n : Nat, k ≤ 16 ∧ i = .int .i64 k ∧ wr = midW w l s m t m (acc (fun k => bitB s k || bitB t k) k) n) (fun i _ => 16 - (intOf i).toNat)
    case atStart => exact ⟨0, 0, by omega, rfl, rfl⟩
    case round =>
      obtain ⟨k, n, hk, rfl, rfl⟩ := hrel
      by_cases hlt : k < 16
      · cases hb : bitB s k <;> cases hc : bitB t k
        · have HA := Lib.hid (acc_no (f := (fun k => bitB s k || bitB t k)) (k := k) (by simp [hb, hc]))
          generalize acc (fun k => bitB s k || bitB t k) k = a at *
          go_wp2_with (go_at_call 29; refine (bit_any _ _ (by omega) (by omega) _).mono ?_; rintro e w1 ⟨rfl, rfl⟩)
          go_roundw
          case rel => exact ⟨k + 1, n, by omega, by go_num, by rw [HA.out]⟩
          case measure => simp [intOf]; omega
        · have HA := Lib.hid (acc_yes (f := (fun k => bitB s k || bitB t k)) (k := k) (by simp [hb, hc]))
          generalize acc (fun k => bitB s k || bitB t k) k = a at *
          go_wp2_with (go_at_call 29; refine (bit_any _ _ (by omega) (by omega) _).mono ?_; rintro e w1 ⟨rfl, rfl⟩)
          go_region
          all_goals go_wp2
          all_goals
            go_roundw
            case rel => exact ⟨k + 1, n + 1, by omega, by go_num, by rw [HA.out]⟩
            case measure => simp [intOf]; omega
        · have HA := Lib.hid (acc_yes (f := (fun k => bitB s k || bitB t k)) (k := k) (by simp [hb, hc]))
          generalize acc (fun k => bitB s k || bitB t k) k = a at *
          go_wp2_with (go_at_call 29; refine (bit_any _ _ (by omega) (by omega) _).mono ?_; rintro e w1 ⟨rfl, rfl⟩)
          go_region
          all_goals go_wp2
          all_goals
            go_roundw
            case rel => exact ⟨k + 1, n + 1, by omega, by go_num, by rw [HA.out]⟩
            case measure => simp [intOf]; omega
        · have HA := Lib.hid (acc_yes (f := (fun k => bitB s k || bitB t k)) (k := k) (by simp [hb, hc]))
          generalize acc (fun k => bitB s k || bitB t k) k = a at *
          go_wp2_with (go_at_call 29; refine (bit_any _ _ (by omega) (by omega) _).mono ?_; rintro e w1 ⟨rfl, rfl⟩)
          go_region
          all_goals go_wp2
          all_goals
            go_roundw
            case rel => exact ⟨k + 1, n + 1, by omega, by go_num, by rw [HA.out]⟩
            case measure => simp [intOf]; omega
      · obtain rfl : k = 16 := by omega
        go_wp2_with fail
        have hl := HL.out
        refine bodyPost_ret (v := .agg #[.int .i64 lw, .int .u16 (acc (fun k => bitB s k || bitB t k) 16)]) (by subst hl; simp [results, Tryz.results14, go_sem]) rfl ⟨rfl, ?_⟩
        exact below_drewN (((((Below.refl _ _).alloc (Nat.le_refl _) _).alloc (by simp) _).alloc (by simp; omega) _).alloc (by simp; omega) _) _
  · have HL := Lib.hid (show mxI l m = l by unfold mxI; rw [if_neg h])
    generalize mxI l m = lw at *
    go_enter Tryz.func14, Tryz.ntmps14
    go_wp2_with fail
    go_loopw [6] (fun i wr => ∃ k n : Nat, k ≤ 16 ∧ i = .int .i64 k ∧ wr = midW w l s m t l (acc (fun k => bitB s k || bitB t k) k) n) (fun i _ => 16 - (intOf i).toNat)
    case atStart => exact ⟨0, 0, by omega, rfl, rfl⟩
    case round =>
      obtain ⟨k, n, hk, rfl, rfl⟩ := hrel
      by_cases hlt : k < 16
      · cases hb : bitB s k <;> cases hc : bitB t k
        · have HA := Lib.hid (acc_no (f := (fun k => bitB s k || bitB t k)) (k := k) (by simp [hb, hc]))
          generalize acc (fun k => bitB s k || bitB t k) k = a at *
          go_wp2_with (go_at_call 29; refine (bit_any _ _ (by omega) (by omega) _).mono ?_; rintro e w1 ⟨rfl, rfl⟩)
          go_roundw
          case rel => exact ⟨k + 1, n, by omega, by go_num, by rw [HA.out]⟩
          case measure => simp [intOf]; omega
        · have HA := Lib.hid (acc_yes (f := (fun k => bitB s k || bitB t k)) (k := k) (by simp [hb, hc]))
          generalize acc (fun k => bitB s k || bitB t k) k = a at *
          go_wp2_with (go_at_call 29; refine (bit_any _ _ (by omega) (by omega) _).mono ?_; rintro e w1 ⟨rfl, rfl⟩)
          go_region
          all_goals go_wp2
          all_goals
            go_roundw
            case rel => exact ⟨k + 1, n + 1, by omega, by go_num, by rw [HA.out]⟩
            case measure => simp [intOf]; omega
        · have HA := Lib.hid (acc_yes (f := (fun k => bitB s k || bitB t k)) (k := k) (by simp [hb, hc]))
          generalize acc (fun k => bitB s k || bitB t k) k = a at *
          go_wp2_with (go_at_call 29; refine (bit_any _ _ (by omega) (by omega) _).mono ?_; rintro e w1 ⟨rfl, rfl⟩)
          go_region
          all_goals go_wp2
          all_goals
            go_roundw
            case rel => exact ⟨k + 1, n + 1, by omega, by go_num, by rw [HA.out]⟩
            case measure => simp [intOf]; omega
        · have HA := Lib.hid (acc_yes (f := (fun k => bitB s k || bitB t k)) (k := k) (by simp [hb, hc]))
          generalize acc (fun k => bitB s k || bitB t k) k = a at *
          go_wp2_with (go_at_call 29; refine (bit_any _ _ (by omega) (by omega) _).mono ?_; rintro e w1 ⟨rfl, rfl⟩)
          go_region
          all_goals go_wp2
          all_goals
            go_roundw
            case rel => exact ⟨k + 1, n + 1, by omega, by go_num, by rw [HA.out]⟩
            case measure => simp [intOf]; omega
      · obtain rfl : k = 16 := by omega
        go_wp2_with fail
        have hl := HL.out
        refine bodyPost_ret (v := .agg #[.int .i64 lw, .int .u16 (acc (fun k => bitB s k || bitB t k) 16)]) (by subst hl; simp [results, Tryz.results14, go_sem]) rfl ⟨rfl, ?_⟩
        exact below_drewN (((((Below.refl _ _).alloc (Nat.le_refl _) _).alloc (by simp) _).alloc (by simp; omega) _).alloc (by simp; omega) _) _

set_option maxHeartbeats 1000000 in
set_option maxRecDepth 100000 in
theorem refoff_is (l s m t : Int) (w : World) :
    Calls Tryz.prog 13 #[.agg #[.int .i64 l, .int .u16 s], .agg #[.int .i64 m, .int .u16 t]] w fun e w' => e = .returned (.agg #[.int .i64 (offL l m), .int .u16 (acc (fun k => bitB s k && !bitB t k) 16)]) ∧ Below w.heap.size w w' := by
  by_cases h : m < l
  · have HL := Lib.hid (show offL l m = l by unfold offL; rw [if_pos h])
    generalize offL l m = lw at *
    go_enter Tryz.func13, Tryz.ntmps13
    go_wp2_with fail
    go_loopw [6] (fun i wr => ∃ k n : Nat, k ≤ 16 ∧ i = .int .i64 k ∧ wr = midW w l s m t l (acc (fun k => bitB s k && !bitB t k) k) n) (fun i _ => 16 - (intOf i).toNat)
    case atStart => exact ⟨0, 0, by omega, rfl, rfl⟩
    case round =>
      obtain ⟨k, n, hk, rfl, rfl⟩ := hrel
      by_cases hlt : k < 16
      · cases hb : bitB s k <;> cases hc : bitB t k
        · have HA := Lib.hid (acc_no (f := (fun k => bitB s k && !bitB t k)) (k := k) (by simp [hb, hc]))
          generalize acc (fun k => bitB s k && !bitB t k) k = a at *
          go_wp2_with (go_at_call 29; refine (bit_any _ _ (by omega) (by omega) _).mono ?_; rintro e w1 ⟨rfl, rfl⟩)
          go_roundw
          case rel => exact ⟨k + 1, n, by omega, by go_num, by rw [HA.out]⟩
          case measure => simp [intOf]; omega
        · have HA := Lib.hid (acc_no (f := (fun k => bitB s k && !bitB t k)) (k := k) (by simp [hb, hc]))
          generalize acc (fun k => bitB s k && !bitB t k) k = a at *
          go_wp2_with (go_at_call 29; refine (bit_any _ _ (by omega) (by omega) _).mono ?_; rintro e w1 ⟨rfl, rfl⟩)
          go_roundw
          case rel => exact ⟨k + 1, n, by omega, by go_num, by rw [HA.out]⟩
          case measure => simp [intOf]; omega
        · have HA := Lib.hid (acc_yes (f := (fun k => bitB s k && !bitB t k)) (k := k) (by simp [hb, hc]))
          generalize acc (fun k => bitB s k && !bitB t k) k = a at *
          go_wp2_with (go_at_call 29; refine (bit_any _ _ (by omega) (by omega) _).mono ?_; rintro e w1 ⟨rfl, rfl⟩)
          go_region
          all_goals go_wp2
          all_goals
            go_roundw
            case rel => exact ⟨k + 1, n + 1, by omega, by go_num, by rw [HA.out]⟩
            case measure => simp [intOf]; omega
        · have HA := Lib.hid (acc_no (f := (fun k => bitB s k && !bitB t k)) (k := k) (by simp [hb, hc]))
          generalize acc (fun k => bitB s k && !bitB t k) k = a at *
          go_wp2_with (go_at_call 29; refine (bit_any _ _ (by omega) (by omega) _).mono ?_; rintro e w1 ⟨rfl, rfl⟩)
          go_roundw
          case rel => exact ⟨k + 1, n, by omega, by go_num, by rw [HA.out]⟩
          case measure => simp [intOf]; omega
      · obtain rfl : k = 16 := by omega
        go_wp2_with fail
        have hl := HL.out
        refine bodyPost_ret (v := .agg #[.int .i64 lw, .int .u16 (acc (fun k => bitB s k && !bitB t k) 16)]) (by subst hl; simp [results, Tryz.results13, go_sem]) rfl ⟨rfl, ?_⟩
        exact below_drewN (((((Below.refl _ _).alloc (Nat.le_refl _) _).alloc (by simp) _).alloc (by simp; omega) _).alloc (by simp; omega) _) _
  · have HL := Lib.hid (show offL l m = 0 by unfold offL; rw [if_neg h])
    generalize offL l m = lw at *
    go_enter Tryz.func13, Tryz.ntmps13
    go_wp2_with fail
    go_loopw [6] (fun i wr => ∃ k n : Nat, k ≤ 16 ∧ i = .int .i64 k ∧ wr = midW w l s m t 0 (acc (fun k => bitB s k && !bitB t k) k) n) (fun i _ => 16 - (intOf i).toNat)
    case atStart => exact ⟨0, 0, by omega, rfl, rfl⟩
    case round =>
      obtain ⟨k, n, hk, rfl, rfl⟩ := hrel
      by_cases hlt : k < 16
      · cases hb : bitB s k <;> cases hc : bitB t k
        · have HA := Lib.hid (acc_no (f := (fun k => bitB s k && !bitB t k)) (k := k) (by simp [hb, hc]))
          generalize acc (fun k => bitB s k && !bitB t k) k = a at *
          go_wp2_with (go_at_call 29; refine (bit_any _ _ (by omega) (by omega) _).mono ?_; rintro e w1 ⟨rfl, rfl⟩)
          go_roundw
          case rel => exact ⟨k + 1, n, by omega, by go_num, by rw [HA.out]⟩
          case measure => simp [intOf]; omega
        · have HA := Lib.hid (acc_no (f := (fun k => bitB s k && !bitB t k)) (k := k) (by simp [hb, hc]))
          generalize acc (fun k => bitB s k && !bitB t k) k = a at *
          go_wp2_with (go_at_call 29; refine (bit_any _ _ (by omega) (by omega) _).mono ?_; rintro e w1 ⟨rfl, rfl⟩)
          go_roundw
          case rel => exact ⟨k + 1, n, by omega, by go_num, by rw [HA.out]⟩
          case measure => simp [intOf]; omega
        · have HA := Lib.hid (acc_yes (f := (fun k => bitB s k && !bitB t k)) (k := k) (by simp [hb, hc]))
          generalize acc (fun k => bitB s k && !bitB t k) k = a at *
          go_wp2_with (go_at_call 29; refine (bit_any _ _ (by omega) (by omega) _).mono ?_; rintro e w1 ⟨rfl, rfl⟩)
          go_region
          all_goals go_wp2
          all_goals
            go_roundw
            case rel => exact ⟨k + 1, n + 1, by omega, by go_num, by rw [HA.out]⟩
            case measure => simp [intOf]; omega
        · have HA := Lib.hid (acc_no (f := (fun k => bitB s k && !bitB t k)) (k := k) (by simp [hb, hc]))
          generalize acc (fun k => bitB s k && !bitB t k) k = a at *
          go_wp2_with (go_at_call 29; refine (bit_any _ _ (by omega) (by omega) _).mono ?_; rintro e w1 ⟨rfl, rfl⟩)
          go_roundw
          case rel => exact ⟨k + 1, n, by omega, by go_num, by rw [HA.out]⟩
          case measure => simp [intOf]; omega
      · obtain rfl : k = 16 := by omega
        go_wp2_with fail
        have hl := HL.out
        refine bodyPost_ret (v := .agg #[.int .i64 lw, .int .u16 (acc (fun k => bitB s k && !bitB t k) 16)]) (by subst hl; simp [results, Tryz.results13, go_sem]) rfl ⟨rfl, ?_⟩
        exact below_drewN (((((Below.refl _ _).alloc (Nat.le_refl _) _).alloc (by simp) _).alloc (by simp; omega) _).alloc (by simp; omega) _) _

set_option maxHeartbeats 1000000 in
set_option maxRecDepth 100000 in
theorem refleq_is (l s m t : Int) (hs : SetN s) (ht : SetN t) (r : Bool) (hr : leqB l s m t = r) (w : World) :
    Calls Tryz.prog 11 #[.agg #[.int .i64 l, .int .u16 s], .agg #[.int .i64 m, .int .u16 t]] w fun e w' => e = .returned (.bool r) ∧ Below w.heap.size w w' := by
  have HS := Lib.hid hs
  have HT := Lib.hid ht
  have HR := Lib.hid hr
  clear hs ht hr
  go_enter Tryz.func11, Tryz.ntmps11
  go_wp2_with fail
  go_loopw [5] (fun i wr => ∃ k : Nat, k ≤ 16 ∧ i = .int .i64 k ∧ Hid (noneMissing s t k) ∧ wr = (w.alloc (.cells #[.int .i64 l, .int .u16 s] 41)).alloc (.cells #[.int .i64 m, .int .u16 t] 41)) (fun i _ => 16 - (intOf i).toNat)
  case atStart => exact ⟨0, by omega, rfl, fun i hi => absurd hi (by omega), rfl⟩
  case round =>
    obtain ⟨k, hk, rfl, HM, rfl⟩ := hrel
    by_cases hlt : k < 16
    · cases hb : bitB s k <;> cases hc : bitB t k
      · have HN : Hid (noneMissing s t (k + 1)) := fun i hi => if e : i = k then by rw [e, hb]; rfl else HM.out i (by omega)
        go_wp2_with (go_at_call 29; refine (bit_any _ _ (by omega) (by omega) _).mono ?_; rintro e w1 ⟨rfl, rfl⟩)
        go_roundw
        case rel => exact ⟨k + 1, by omega, by go_num, HN, trivial⟩
        case measure => simp [intOf]; omega
      · have HN : Hid (noneMissing s t (k + 1)) := fun i hi => if e : i = k then by rw [e, hb]; rfl else HM.out i (by omega)
        go_wp2_with (go_at_call 29; refine (bit_any _ _ (by omega) (by omega) _).mono ?_; rintro e w1 ⟨rfl, rfl⟩)
        go_roundw
        case rel => exact ⟨k + 1, by omega, by go_num, HN, trivial⟩
        case measure => simp [intOf]; omega
      · have HF : Hid (r = false) := by rw [← HR.out]; exact leq_bits_not HS.out HT.out k hlt (by rw [hb, hc]; rfl)
        go_wp2_with (go_at_call 29; refine (bit_any _ _ (by omega) (by omega) _).mono ?_; rintro e w1 ⟨rfl, rfl⟩)
        go_ret
        exact ⟨ret_bool HF.out.symm, ((Below.refl _ _).alloc (Nat.le_refl _) _).alloc (by simp) _⟩
      · have HN : Hid (noneMissing s t (k + 1)) := fun i hi => if e : i = k then by rw [e, hb, hc]; rfl else HM.out i (by omega)
        go_wp2_with (go_at_call 29; refine (bit_any _ _ (by omega) (by omega) _).mono ?_; rintro e w1 ⟨rfl, rfl⟩)
        go_roundw
        case rel => exact ⟨k + 1, by omega, by go_num, HN, trivial⟩
        case measure => simp [intOf]; omega
    · obtain rfl : k = 16 := by omega
      have HF : Hid (r = decide (l ≤ m)) := by rw [← HR.out]; exact leq_bits HS.out HT.out HM.out
      go_wp2_with fail
      go_ret
      exact ⟨ret_bool HF.out.symm, ((Below.refl _ _).alloc (Nat.le_refl _) _).alloc (by simp) _⟩

end Go.Proofs.YtcddbpdebklhnaaGreatDoor

namespace Go.Proofs.YtcddbpdebklhnaaGreatDoor
open Go.RowKit

theorem info_u8 : (Tryz.prog.info? 5).map (fun i => (i.zero, i.size, i.bytes)) = some (some (.int .u8 0), 1, 1) := by kernel_rfl

theorem hex_at (d : Int) (h : d.toNat < (⟨#[48, 49, 50, 51, 52, 53, 54, 55, 56, 57, 97, 98, 99, 100, 101, 102]⟩ : ByteArray).size) : (((⟨#[48, 49, 50, 51, 52, 53, 54, 55, 56, 57, 97, 98, 99, 100, 101, 102]⟩ : ByteArray)[d.toNat]'h).toNat : Int) = hexC d := by
  unfold hexC sixteenL
  have h' : d.toNat < 16 := h
  rw [List.getD, List.getElem?_eq_getElem (by simpa using h')]
  rfl

def TextRel (w : World) (l s : Int) (v i : Value) (wr : World) : Prop :=
  ∃ (k : Nat) (y : Int), k ≤ 4 ∧ i = .int .i64 y ∧ y = 12 - 4 * (k : Int) ∧ wr.ownsRow (w.heap.size + 1) 5 1 v (2 + k) (((textN l s).take (2 + k)).map (Value.int .u8)) ∧ wr.cell? ⟨w.heap.size, 1, none⟩ = some (.int .u16 s) ∧ Below w.heap.size w wr ∧ w.heap.size + 1 ≤ wr.heap.size

theorem text_step {w wr w2 : World} {l s y d : Int} {v v' : Value} {k : Nat} {o : Obj} (hlt : k < 4) (hy : y = 12 - 4 * (k : Int)) (hd : d = digit s k)
    (hown : wr.ownsRow (w.heap.size + 1) 5 1 v (2 + k) (((textN l s).take (2 + k)).map (Value.int .u8))) (hcell : wr.cell? ⟨w.heap.size, 1, none⟩ = some (.int .u16 s)) (hbel : Below w.heap.size w wr) (hsz : w.heap.size + 1 ≤ wr.heap.size)
    (hown' : w2.ownsRow (w.heap.size + 1) 5 1 v' (2 + k + 1) (((textN l s).take (2 + k)).map (Value.int .u8) ++ [.int .u8 (hexC d)])) (hgrow : (wr.alloc o).grownBy w2 v.ownBlock) : TextRel w l s v' (.int .i64 (y - 4)) w2 := by
  have hne : some w.heap.size ≠ v.ownBlock := fun e => by have := (hown.lt _ e.symm).1; omega
  refine ⟨k + 1, y - 4, by omega, rfl, by omega, ?_, ?_, ?_, ?_⟩
  · rw [← text_snoc l s k hlt, List.map_append, ← hd]
    exact hown'
  · rw [World.cell?_of_block (w := wr.alloc o) (hgrow.block _ (by simp; omega) hne), World.cell?_alloc_past _ _ _ (by omega)]
    exact hcell
  · exact (hbel.alloc (by omega) o).grown hgrow (by simp; omega) (fun b hb => by have := (hown.lt b hb).1; omega)
  · have := hgrow.size
    simp at this
    omega

/-- An owned row of bytes, made a string. -/
theorem row_string {w : World} {base : Nat} {v : Value} {n : Nat} {xs : List Int} (h : w.ownsRow base 5 1 v n (xs.map (Value.int .u8))) (hn : 0 < n) (w' : World) (hw : ∀ a, w'.cell? a = w.cell? a) :
    (convert 160 9 v).run Tryz.prog w' = .ok (.string (strOfNums xs)) w' := by
  have hlen : xs.length = n := by have := h.1; simpa using this
  rcases h.2 with ⟨_, h0⟩ | ⟨g, cap, cur, rfl, hg, hcur, hnc, hcm, hcs, htake⟩
  · omega
  · refine run_convert_bytes_arg w' 160 5 Tryz.underlying160 Tryz.underlying5 g 0 n cap xs hlen (fun i hi => ?_) 9 Tryz.underlying9
    rw [Nat.zero_add, hw, h.cellAt i (by omega)]
    have hi' : i < xs.length := by omega
    simp [List.getElem?_eq_getElem hi', List.getD]

end Go.Proofs.YtcddbpdebklhnaaGreatDoor

namespace Go.Proofs.YtcddbpdebklhnaaGreatDoor
open Go.RowKit

def ParsePost (s : ByteArray) (w : World) (e : Ending) (w' : World) : Prop :=
  ((GoodText s ∧ e = .returned (.tuple #[.agg #[.int .i64 (hexI (byteN s 0)), .int .u16 (setV s 4)], .int .i64 0])) ∨ (¬ GoodText s ∧ e = .returned (.tuple #[.agg #[.int .i64 0, .int .u16 0], .int .i64 3]))) ∧ Below w.heap.size w w'

abbrev lab0 : Obj := .cells #[.int .i64 0, .int .u16 0] 41

end Go.Proofs.YtcddbpdebklhnaaGreatDoor

namespace Go.Proofs.YtcddbpdebklhnaaGreatDoor
open Go.RowKit

theorem conv_one (w : World) (x : Int) (g : Nat) (hg : g = w.heap.size) : (convert 160 9 (.slice (some ⟨g, 0, none⟩) 1 1)).run Tryz.prog (w.alloc (.cells #[.int .u8 x] 5)) = .ok (.string (strOfNums [x])) (w.alloc (.cells #[.int .u8 x] 5)) := by
  subst hg
  exact row_string (base := 0) (xs := [x]) (World.ownsRow_lit w #[.int .u8 x] 1 (by omega) (by unfold maxLen; omega) rfl) (by omega) _ (fun _ => rfl)

theorem level_char (l : Int) (h0 : 0 ≤ l) (h7 : l ≤ 7) : IntKind.u8.wrap (48 + l) = hexC l := by
  have : l = 0 ∨ l = 1 ∨ l = 2 ∨ l = 3 ∨ l = 4 ∨ l = 5 ∨ l = 6 ∨ l = 7 := by omega
  rcases this with rfl | rfl | rfl | rfl | rfl | rfl | rfl | rfl <;> decide

theorem hex_cut (d : Int) (h0 : 0 ≤ d) (h1 : d < 16) : (⟨#[48, 49, 50, 51, 52, 53, 54, 55, 56, 57, 97, 98, 99, 100, 101, 102]⟩ : ByteArray).extract d.toNat (d + 1).toNat = strOfNums [hexC d] := by
  have : d = 0 ∨ d = 1 ∨ d = 2 ∨ d = 3 ∨ d = 4 ∨ d = 5 ∨ d = 6 ∨ d = 7 ∨ d = 8 ∨ d = 9 ∨ d = 10 ∨ d = 11 ∨ d = 12 ∨ d = 13 ∨ d = 14 ∨ d = 15 := by omega
  rcases this with rfl | rfl | rfl | rfl | rfl | rfl | rfl | rfl | rfl | rfl | rfl | rfl | rfl | rfl | rfl | rfl <;> decide
theorem str_append (xs ys : List Int) : strOfNums xs ++ strOfNums ys = strOfNums (xs ++ ys) := by
  apply ByteArray.ext
  simp [strOfNums]
theorem text_next {l s d : Int} (k : Nat) (hk : k < 4) (hd : d = digit s k) (h0 : 0 ≤ d) (h1 : d < 16) :
    strOfNums (List.take (2 + k) (textN l s)) ++ (⟨#[48, 49, 50, 51, 52, 53, 54, 55, 56, 57, 97, 98, 99, 100, 101, 102]⟩ : ByteArray).extract d.toNat (d + 1).toNat = strOfNums (List.take (2 + (k + 1)) (textN l s)) := by
  rw [hex_cut d h0 h1, str_append, ← text_snoc l s k hk, hd]

def RefTextRel (l s : Int) (v i : Value) : Prop := ∃ k : Nat, k ≤ 4 ∧ i = .int .i64 (3 - (k : Int)) ∧ v = .string (strOfNums ((textN l s).take (2 + k)))

end Go.Proofs.YtcddbpdebklhnaaGreatDoor

namespace Go.Proofs.YtcddbpdebklhnaaGreatDoor
open Go.RowKit

def RefParsePost (s : ByteArray) (w : World) (e : Ending) (w' : World) : Prop :=
  ((GoodText s ∧ e = .returned (.tuple #[.agg #[.int .i64 (hexI (byteN s 0)), .int .u16 (setV s 4)], .bool true])) ∨ (¬ GoodText s ∧ e = .returned (.tuple #[.agg #[.int .i64 0, .int .u16 0], .bool false]))) ∧ Below w.heap.size w w'

theorem hex_at_nat (j : Nat) : ∀ h : j < (⟨#[48, 49, 50, 51, 52, 53, 54, 55, 56, 57, 97, 98, 99, 100, 101, 102]⟩ : ByteArray).size, (((⟨#[48, 49, 50, 51, 52, 53, 54, 55, 56, 57, 97, 98, 99, 100, 101, 102]⟩ : ByteArray)[j]'h).toNat : Int) = hexC j := fun h => hex_at j h
theorem innV_yes {x c : Int} {e j : Nat} (h : hexI c = j) : innV x c e (j + 1) = IntKind.u16.wrap (innV x c e j + IntKind.u16.wrap ((j : Int) * 2 ^ e)) := by simp [innV, h]
theorem innV_no {x c : Int} {e j : Nat} (h : ¬ hexI c = j) : innV x c e (j + 1) = innV x c e j := by simp [innV, h]

theorem bytes_ext {a b : ByteArray} (h : a.toList = b.toList) : a = b := by
  rw [ByteArray.toList_eq, ByteArray.toList_eq] at h
  exact ByteArray.ext (Array.ext' h)
theorem two_set {w : World} {b : Nat} {x y u v : Value} (h0 : w.cell? ⟨b, 0, none⟩ = some x) (h1 : w.cell? ⟨b, 1, none⟩ = some y) :
    ((w.setCell ⟨b, 0, none⟩ u).setCell ⟨b, 1, none⟩ v).cell? ⟨b, 0, none⟩ = some u ∧ ((w.setCell ⟨b, 0, none⟩ u).setCell ⟨b, 1, none⟩ v).cell? ⟨b, 1, none⟩ = some v := by
  have e0 : (w.setCell ⟨b, 0, none⟩ u).cell? ⟨b, 0, none⟩ = some u := World.cell?_setCell_same' w _ _ (by rw [h0]; rfl)
  have e1 : (w.setCell ⟨b, 0, none⟩ u).cell? ⟨b, 1, none⟩ = some y := by rw [← h1]; apply World.cell?_setCell_other; simp
  refine ⟨?_, World.cell?_setCell_same' _ _ _ (by rw [e1]; rfl)⟩
  rw [← e0]
  apply World.cell?_setCell_other
  simp

abbrev refW (w : World) (l a : Int) (n : Nat) : World := ((w.alloc lab0).alloc (.cells #[.int .i64 l, .int .u16 a] 41)).drewN n

end Go.Proofs.YtcddbpdebklhnaaGreatDoor
