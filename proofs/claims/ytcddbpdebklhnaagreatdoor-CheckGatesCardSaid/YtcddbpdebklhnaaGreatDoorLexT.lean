/-
  Plain words: what stands between the separators of a text, each part with its place; a text's lines by parts. No program is named here. Plain words: the first part of a text and what stands behind it, by the first separator. No program is named here.
-/
import Derived.Test.YtcddbpdebklhnaaGreatDoorLexQ
import Derived.Lib.IndexLaws
namespace Go.Proofs.YtcddbpdebklhnaaGreatDoor

/-- What stands between the bytes c of l, which begins at place p. -/
def partsL (c : UInt8) : List UInt8 → Nat → List (List UInt8 × Nat)
  | [], p => [([], p)]
  | b :: l, p => if b = c then ([], p) :: partsL c l (p + 1) else match partsL c l (p + 1) with
    | [] => [([b], p)]
    | (x, _) :: r => (b :: x, p) :: r
theorem partsL_head (c : UInt8) : ∀ (l : List UInt8) (p : Nat), ∃ x r, partsL c l p = (x, p) :: r
  | [], p => ⟨[], [], rfl⟩
  | b :: l, p => by
    rw [partsL]
    by_cases h : b = c
    · rw [if_pos h]; exact ⟨_, _, rfl⟩
    · rw [if_neg h]
      obtain ⟨x, r, e⟩ := partsL_head c l (p + 1)
      rw [e]
      exact ⟨_, _, rfl⟩
theorem partsL_same {c : UInt8} {l : List UInt8} {p : Nat} : partsL c (c :: l) p = ([], p) :: partsL c l (p + 1) := by rw [partsL, if_pos rfl]
theorem partsL_other {c b : UInt8} (h : b ≠ c) {l : List UInt8} {p q : Nat} {x : List UInt8} {r : List (List UInt8 × Nat)} (e : partsL c l (p + 1) = (x, q) :: r) : partsL c (b :: l) p = (b :: x, p) :: r := by
  rw [partsL, if_neg h, e]
theorem partsL_none {c : UInt8} : ∀ (l : List UInt8) (p : Nat), (∀ b ∈ l, b ≠ c) → partsL c l p = [(l, p)]
  | [], _, _ => rfl
  | b :: l, p, h => partsL_other (h b (List.mem_cons_self ..)) (partsL_none l (p + 1) (fun d hd => h d (List.mem_cons_of_mem _ hd)))
theorem partsL_at {c : UInt8} (y : List UInt8) : ∀ (x : List UInt8) (p : Nat), (∀ b ∈ x, b ≠ c) → partsL c (x ++ c :: y) p = (x, p) :: partsL c y (p + x.length + 1)
  | [], p, _ => partsL_same
  | b :: x, p, h => by
    have := partsL_at y x (p + 1) (fun d hd => h d (List.mem_cons_of_mem _ hd))
    rw [List.cons_append, partsL_other (h b (List.mem_cons_self ..)) this]
    rw [show p + 1 + x.length + 1 = p + (b :: x).length + 1 by simp; omega]

def mkW (x : List UInt8 × Nat) : Wd := ⟨ofL x.1, x.2⟩
def some_ (w : Wd) : Bool := !(w.t.size == 0)
/-- The words of a line that begins at p. -/
def wdsL (x : List UInt8) (p : Nat) : List Wd := ((partsL 32 x p).map mkW).filter some_
/-- The lines of a text. -/
def lnsL (l : List UInt8) : List (List Wd) := ((partsL 10 l 0).map fun x => wdsL x.1 x.2).filter fun l => !l.isEmpty

/-- A line that goes on with x, behind words and a part of one. -/
def joinL (line : List Wd) (word : ByteArray) (at_ : Nat) (x : List UInt8) (p : Nat) : List Wd :=
  match partsL 32 x p with
  | [] => line
  | (y, q) :: r => line ++ ((⟨word ++ ofL y, if word = .empty then q else at_⟩ : Wd) :: r.map mkW).filter some_
def restL (line : List Wd) (word : ByteArray) (at_ : Nat) (l : List UInt8) (k : Nat) : List (List Wd) :=
  match partsL 10 l k with
  | [] => []
  | (x, p) :: r => (joinL line word at_ x p :: r.map fun y => wdsL y.1 y.2).filter fun l => !l.isEmpty
theorem joinL_nil (x : List UInt8) (p a : Nat) : joinL [] .empty a x p = wdsL x p := by
  obtain ⟨y, r, e⟩ := partsL_head 32 x p
  unfold joinL wdsL
  rw [e]
  simp [mkW]
theorem restL_nil (l : List UInt8) (a k : Nat) : restL [] .empty a l k = ((partsL 10 l k).map fun x => wdsL x.1 x.2).filter fun l => !l.isEmpty := by
  obtain ⟨y, r, e⟩ := partsL_head 10 l k
  unfold restL
  rw [e]
  simp [joinL_nil]
theorem size_zero {s : ByteArray} : s.size = 0 ↔ s = .empty := ⟨fun h => ByteArray.ext (Array.eq_empty_of_size_eq_zero h), fun h => by rw [h]; rfl⟩
theorem joinL_done (st : LxS) (k : Nat) : joinL st.line st.word st.at_ [] k = st.done := by
  unfold joinL LxS.done
  have : ofL [] = .empty := rfl
  simp only [partsL, this, ByteArray.append_empty, List.map_nil]
  by_cases h : st.word = .empty
  · rw [if_pos h]
    simp [some_, h]
  · rw [if_neg h, if_neg h]
    simp [some_, h]
theorem ofL_cons (b : UInt8) (l : List UInt8) : ofL (b :: l) = ofL [b] ++ ofL l := by
  apply bl_inj
  simp [bl_append, bl_ofL]

/-- May the byte stand in a text? -/
def okB (c : Int) : Prop := c = 10 ∨ (32 ≤ c ∧ c < 127)
theorem lexGo_rest (s : ByteArray) : ∀ (f k : Nat) (st : LxS) (l : List UInt8), k + f = s.size → l = (bl s).drop k → (∀ j, k ≤ j → j < s.size → okB (byL s j)) → lexGo s f k st = .good (st.out ++ restL st.line st.word st.at_ l k)
  | 0, k, st, l, hk, hl, _ => by
    obtain rfl : l = [] := by rw [hl]; exact List.drop_eq_nil_of_le (by rw [bl_len]; omega)
    rw [lexGo_end]
    unfold restL LxS.feed
    simp only [partsL, List.map_nil, joinL_done]
    by_cases h : st.done = []
    · simp [h]
    · have : st.done.isEmpty = false := by cases hd : st.done with
        | nil => exact absurd hd h
        | cons => rfl
      simp [h, this]
  | f + 1, k, st, l, hk, hl, hok => by
    have hlt : k < (bl s).length := by rw [bl_len]; omega
    obtain ⟨b, l', e, hb, hl'⟩ : ∃ b l', l = b :: l' ∧ byL s k = (b.toNat : Int) ∧ l' = (bl s).drop (k + 1) := by
      refine ⟨(bl s)[k], (bl s).drop (k + 1), by rw [hl, List.drop_eq_getElem_cons hlt], ?_, rfl⟩
      unfold byL
      rw [List.getD_eq_getElem?_getD, List.getElem?_eq_getElem hlt]
      rfl
    subst e
    have hx : s.extract k (k + 1) = ofL [b] := by
      apply bl_inj
      rw [bl_extract, bl_ofL, List.drop_take, show k + 1 - k = 1 by omega, ← hl, List.take_succ_cons, List.take_zero]
    have ih := fun st' => lexGo_rest s f (k + 1) st' l' (by omega) hl' (fun j h1 h2 => hok j (by omega) h2)
    have hk0 := hok k (Nat.le_refl _) (by omega)
    rw [hb] at hk0
    obtain ⟨x, r, ex⟩ := partsL_head 10 l' (k + 1)
    obtain ⟨y, r2, ey⟩ := partsL_head 32 x (k + 1)
    by_cases h1 : b = 10
    · subst h1
      rw [lexGo_feed (by rw [hb]; rfl), ih]
      congr 1
      have e1 : restL st.line st.word st.at_ (10 :: l') k = (st.done :: (partsL 10 l' (k + 1)).map fun y => wdsL y.1 y.2).filter fun l => !l.isEmpty := by
        unfold restL
        rw [partsL_same]
        simp only [joinL_done]
      rw [e1]
      show (if st.done = [] then st.out else st.out ++ [st.done]) ++ restL [] .empty _ l' (k + 1) = _
      rw [restL_nil]
      by_cases h : st.done = []
      · simp [h]
      · have : st.done.isEmpty = false := by cases hd : st.done with
          | nil => exact absurd hd h
          | cons => rfl
        simp [h, this]
    · have e2 : ∀ line word at_, restL line word at_ (b :: l') k = (joinL line word at_ (b :: x) k :: r.map fun y => wdsL y.1 y.2).filter fun l => !l.isEmpty := fun line word at_ => by
        unfold restL
        rw [partsL_other h1 ex]
      have e3 : ∀ line word at_, restL line word at_ l' (k + 1) = (joinL line word at_ x (k + 1) :: r.map fun y => wdsL y.1 y.2).filter fun l => !l.isEmpty := fun line word at_ => by
        unfold restL
        rw [ex]
      by_cases h2 : b = 32
      · subst h2
        rw [lexGo_space (by rw [hb]; rfl), ih, e2, e3]
        suffices hJ : joinL st.space.line st.space.word st.space.at_ x (k + 1) = joinL st.line st.word st.at_ (32 :: x) k by
          rw [hJ]
          rfl
        show joinL st.done .empty (if st.word = .empty then st.at_ else 0) x (k + 1) = _
        have e4 : joinL st.line st.word st.at_ (32 :: x) k = st.line ++ ((⟨st.word ++ ofL [], if st.word = .empty then k else st.at_⟩ : Wd) :: (partsL 32 x (k + 1)).map mkW).filter some_ := by
          unfold joinL
          rw [partsL_same]
        have e5 : joinL st.done .empty (if st.word = .empty then st.at_ else 0) x (k + 1) = st.done ++ ((partsL 32 x (k + 1)).map mkW).filter some_ := by
          unfold joinL
          rw [ey]
          simp [mkW]
        rw [e4]
        refine e5.trans ?_
        rw [← joinL_done st k]
        unfold joinL
        simp only [partsL, List.map_nil]
        generalize (⟨st.word ++ ofL [], if st.word = .empty then k else st.at_⟩ : Wd) = W0
        by_cases hW : some_ W0 = true <;> simp [hW]
      · have h3 : 32 < b.toNat := by
          have e10 : b.toNat ≠ 10 := fun e => h1 (UInt8.toNat_inj.1 e)
          have e32 : b.toNat ≠ 32 := fun e => h2 (UInt8.toNat_inj.1 e)
          unfold okB at hk0
          omega
        have h4 : b.toNat < 127 := by unfold okB at hk0; omega
        rw [lexGo_word (by rw [hb]; omega) (by rw [hb]; omega), ih, e2, e3, hx]
        suffices hJ : joinL (st.push (ofL [b]) k).line (st.push (ofL [b]) k).word (st.push (ofL [b]) k).at_ x (k + 1) = joinL st.line st.word st.at_ (b :: x) k by
          rw [hJ]
          rfl
        show joinL st.line (st.word ++ ofL [b]) (if st.word = .empty then k else st.at_) x (k + 1) = _
        unfold joinL
        rw [ey, partsL_other h2 ey]
        have hn : ¬ st.word ++ ofL [b] = .empty := fun e => by
          have := congrArg ByteArray.size e
          rw [ByteArray.size_append] at this
          have h9 : (ofL [b]).size = 1 := rfl
          rw [h9] at this
          simp at this
        simp only [if_neg hn]
        rw [ByteArray.append_assoc, ← ofL_cons]

theorem lexP_long {s : ByteArray} (h : 600 < s.size) : lexP s = .bad 16 600 := if_pos h
theorem lexP_lines {s : ByteArray} (h : s.size ≤ 600) (hok : ∀ j, j < s.size → okB (byL s j)) : lexP s = .good (lnsL (bl s)) := by
  unfold lexP
  rw [if_neg (by omega), lexGo_rest s s.size 0 lx0 (bl s) (by omega) rfl (fun j _ hj => hok j hj)]
  unfold lx0
  rw [List.nil_append, restL_nil]
  rfl
theorem lexGo_stands (s : ByteArray) (k : Nat) (hk : k < s.size) (hn : ¬ okB (byL s k)) : ∀ (d j : Nat) (st : LxS), j + d = k → (∀ i, j ≤ i → i < k → okB (byL s i)) → lexGo s (s.size - j) j st = .bad 3 k
  | 0, j, st, e, _ => by
    obtain rfl : j = k := by omega
    rw [show s.size - j = (s.size - (j + 1)) + 1 by omega]
    unfold okB at hn
    exact lexGo_bad (by omega) (by omega) (by omega)
  | d + 1, j, st, e, hok => by
    have ih := fun st' => lexGo_stands s k hk hn d (j + 1) st' (by omega) (fun i h1 h2 => hok i (by omega) h2)
    have h0 := hok j (Nat.le_refl _) (by omega)
    unfold okB at h0
    rw [show s.size - j = (s.size - (j + 1)) + 1 by omega]
    by_cases h1 : 32 < byL s j ∧ byL s j < 127
    · rw [lexGo_word h1.1 h1.2, ih]
    · by_cases h2 : byL s j = 10
      · rw [lexGo_feed h2, ih]
      · rw [lexGo_space (by omega), ih]
theorem lexP_stands {s : ByteArray} {k : Nat} (h : s.size ≤ 600) (hk : k < s.size) (hn : ¬ okB (byL s k)) (hok : ∀ i, i < k → okB (byL s i)) : lexP s = .bad 3 k := by
  unfold lexP
  rw [if_neg (by omega)]
  exact lexGo_stands s k hk hn k 0 lx0 (by omega) (fun i _ hi => hok i hi)
end Go.Proofs.YtcddbpdebklhnaaGreatDoor

namespace Go.Proofs.YtcddbpdebklhnaaGreatDoor

section
variable {c : UInt8} {s : ByteArray} {q o : Nat}
theorem part_last (h : Lib.indexByte (bl s) c = -1) : (partsL c (bl s) q).map mkW = [⟨s, q⟩] := by
  rw [partsL_none _ _ (fun b hb e => by
    subst e
    obtain ⟨i, hi, he⟩ := List.mem_iff_getElem.1 hb
    exact Lib.indexByte_none h i (by rw [List.getElem?_eq_getElem hi, he]))]
  show [mkW (bl s, q)] = _
  unfold mkW
  rw [ofL_bl]
theorem at_byte (h : Lib.indexByte (bl s) c = o) : o < (bl s).length ∧ bl s = (bl s).take o ++ c :: (bl s).drop (o + 1) ∧ ∀ d ∈ (bl s).take o, d ≠ c := by
  obtain ⟨h1, h2⟩ := Lib.indexByte_some h
  obtain ⟨hl, h3⟩ := List.getElem?_eq_some_iff.1 h1
  refine ⟨hl, ?_, ?_⟩
  · conv => lhs; rw [← List.take_append_drop o (bl s)]
    rw [List.drop_eq_getElem_cons hl, h3]
  · intro d hd e
    subst e
    obtain ⟨i, hi, he⟩ := List.mem_iff_getElem.1 hd
    rw [List.length_take] at hi
    rw [List.getElem_take] at he
    exact h2 i (by omega) (by rw [List.getElem?_eq_getElem (by omega), he])
theorem part_next (h : Lib.indexByte (bl s) c = o) : (partsL c (bl s) q).map mkW = ⟨s.extract 0 o, q⟩ :: (partsL c (bl (s.extract (o + 1) s.size)) (q + o + 1)).map mkW := by
  obtain ⟨hl, hs, hd⟩ := at_byte h
  have e1 : s.extract 0 o = ofL ((bl s).take o) := by
    apply bl_inj
    rw [bl_extract, bl_ofL, List.drop_zero]
  have e2 : bl (s.extract (o + 1) s.size) = (bl s).drop (o + 1) := by rw [bl_extract, ← bl_len, List.take_length]
  rw [e1, e2]
  conv => lhs; rw [hs, partsL_at _ _ _ hd]
  rw [List.length_take, Nat.min_eq_left (Nat.le_of_lt hl)]
  rfl
theorem byte_low (h : Lib.indexByte (bl s) c = o) : o < s.size := by
  have := (at_byte h).1
  rw [bl_len] at this
  exact this
theorem byte_nat (h : Lib.indexByte (bl s) c ≠ -1) : ∃ o : Nat, Lib.indexByte (bl s) c = o := by
  have := Lib.indexByte_ge (bl s) c
  exact ⟨(Lib.indexByte (bl s) c).toNat, by omega⟩
end
/-- Parts lie in the text. -/
theorem parts_in {c : UInt8} : ∀ (l : List UInt8) (p : Nat) (x : List UInt8 × Nat), x ∈ partsL c l p → p ≤ x.2 ∧ x.2 + x.1.length ≤ p + l.length
  | [], p, x, h => by
    obtain rfl : x = ([], p) := by simpa [partsL] using h
    simp
  | b :: l, p, x, h => by
    obtain ⟨y, r, e⟩ := partsL_head c l (p + 1)
    have ih := fun z hz => parts_in (c := c) l (p + 1) z hz
    rw [e] at ih
    by_cases hb : b = c
    · subst hb
      rw [partsL_same, e] at h
      rcases List.mem_cons.1 h with rfl | h
      · simp
      · have := ih x h
        simp
        omega
    · rw [partsL_other hb e] at h
      rcases List.mem_cons.1 h with rfl | h
      · have := ih _ (List.mem_cons_self ..)
        simp at this ⊢
        omega
      · have := ih x (List.mem_cons_of_mem _ h)
        simp
        omega
theorem parts_few {c : UInt8} : ∀ (l : List UInt8) (p : Nat), (partsL c l p).length ≤ l.length + 1
  | [], p => by simp [partsL]
  | b :: l, p => by
    obtain ⟨y, r, e⟩ := partsL_head c l (p + 1)
    have ih := parts_few (c := c) l (p + 1)
    rw [e] at ih
    by_cases hb : b = c
    · subst hb
      rw [partsL_same, e]
      simp at ih ⊢
      omega
    · rw [partsL_other hb e]
      simp at ih ⊢
      omega
end Go.Proofs.YtcddbpdebklhnaaGreatDoor
