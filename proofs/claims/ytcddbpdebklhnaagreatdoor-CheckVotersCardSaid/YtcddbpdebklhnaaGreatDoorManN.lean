/-
  A text, byte by byte; what is wrong in it is wrong with lines behind it, too. Plain facts: no program is named here.
-/
import Derived.Test.YtcddbpdebklhnaaGreatDoorManS
namespace Go.Proofs.YtcddbpdebklhnaaGreatDoor

/-- One byte more: what is held, or nothing, if it may not be. -/
def stepW (b : UInt8) (k : Nat) (st : LxS) : Option LxS :=
  if isW b.toNat then some (st.push (ofL [b]) k) else if b.toNat = 10 then some st.feed else if b.toNat = 32 then some st.space else none
/-- Some bytes more: what is held, or the place of the first one that may not be. -/
def goW : List UInt8 → Nat → LxS → Nat ⊕ LxS
  | [], _, st => .inr st
  | b :: l, k, st => match stepW b k st with
    | none => .inl k
    | some st' => goW l (k + 1) st'
theorem goW_append : ∀ (a b : List UInt8) (k : Nat) (st : LxS), goW (a ++ b) k st = match goW a k st with
    | .inl p => .inl p
    | .inr st' => goW b (k + a.length) st'
  | [], b, k, st => by simp [goW]
  | c :: a, b, k, st => by
    rw [List.cons_append, goW, goW]
    cases stepW c k st with
    | none => rfl
    | some st' =>
      dsimp only
      rw [goW_append a b (k + 1) st', List.length_cons, show k + 1 + a.length = k + (a.length + 1) by omega]
theorem goW_more {a b : List UInt8} {k : Nat} {st st' : LxS} (h : goW a k st = .inr st') : goW (a ++ b) k st = goW b (k + a.length) st' := by rw [goW_append, h]
theorem goW_bad {a b : List UInt8} {k p : Nat} {st : LxS} (h : goW a k st = .inl p) : goW (a ++ b) k st = .inl p := by rw [goW_append, h]
def endW : Nat ⊕ LxS → LxR
  | .inl p => .bad 3 p
  | .inr st => .good st.feed.out
theorem lexGo_goW (s : ByteArray) : ∀ (f k : Nat) (st : LxS), k + f = s.size → lexGo s f k st = endW (goW ((bl s).drop k) k st)
  | 0, k, st, h => by
    have : (bl s).drop k = [] := List.drop_eq_nil_of_le (by rw [bl_len]; omega)
    rw [lexGo_end, this]
    rfl
  | f + 1, k, st, h => by
    have hk : k < (bl s).length := by rw [bl_len]; omega
    have hb : byL s k = ((bl s)[k].toNat : Int) := by
      unfold byL
      rw [List.getD_eq_getElem?_getD, List.getElem?_eq_getElem hk]
      rfl
    have he : s.extract k (k + 1) = ofL [(bl s)[k]] := by
      apply bl_inj
      rw [bl_extract, bl_ofL, List.drop_take, show k + 1 - k = 1 by omega, List.drop_eq_getElem_cons hk]
      rfl
    rw [List.drop_eq_getElem_cons hk, goW, stepW]
    generalize (bl s)[k] = b at hb he
    by_cases h1 : isW b.toNat = true
    · have h2 : 32 < b.toNat ∧ b.toNat < 127 := by simpa [isW] using h1
      rw [if_pos h1, lexGo_word (by omega) (by omega), he]
      exact lexGo_goW s f (k + 1) _ (by omega)
    · have h2 : ¬ (32 < b.toNat ∧ b.toNat < 127) := fun h => h1 (by simpa [isW] using h)
      rw [if_neg h1]
      by_cases h3 : b.toNat = 10
      · rw [if_pos h3, lexGo_feed (by omega)]
        exact lexGo_goW s f (k + 1) _ (by omega)
      · rw [if_neg h3]
        by_cases h4 : b.toNat = 32
        · rw [if_pos h4, lexGo_space (by omega)]
          exact lexGo_goW s f (k + 1) _ (by omega)
        · rw [if_neg h4, lexGo_bad (by omega) (by omega) (by omega)]
          rfl
theorem lexP_goW {s : ByteArray} (h : s.size ≤ 600) : lexP s = endW (goW (bl s) 0 lx0) := by
  unfold lexP
  rw [if_neg (by omega), lexGo_goW s s.size 0 lx0 (by omega)]
  rfl
/-- Bytes that may be only add lines. -/
theorem goW_fine : ∀ (l : List UInt8) (k : Nat) (st : LxS), (∀ b ∈ l, b.toNat = 10 ∨ (32 ≤ b.toNat ∧ b.toNat ≤ 126)) → ∃ st' L, goW l k st = .inr st' ∧ st'.out = st.out ++ L
  | [], k, st, _ => ⟨st, [], rfl, by simp⟩
  | b :: l, k, st, h => by
    have hb := h b (by simp)
    have hl := fun c hc => h c (List.mem_cons_of_mem _ hc)
    obtain ⟨st1, L1, h1, h2⟩ : ∃ st1 L1, stepW b k st = some st1 ∧ st1.out = st.out ++ L1 := by
      unfold stepW
      split
      · exact ⟨_, [], rfl, by simp [LxS.push]⟩
      · rename_i hw
        split
        · refine ⟨_, if st.done = [] then [] else [st.done], rfl, ?_⟩
          show (if st.done = [] then st.out else st.out ++ [st.done]) = _
          split <;> simp
        · rename_i h10
          split
          · exact ⟨_, [], rfl, by simp [LxS.space]⟩
          · rename_i h32
            exfalso
            apply hw
            simp [isW]
            omega
    obtain ⟨st2, L2, h3, h4⟩ := goW_fine l (k + 1) st1 hl
    refine ⟨st2, L1 ++ L2, ?_, by rw [h4, h2, List.append_assoc]⟩
    rw [goW, h1]
    exact h3
theorem feed_more_out (st : LxS) : ∃ L, st.feed.out = st.out ++ L := by
  refine ⟨if st.done = [] then [] else [st.done], ?_⟩
  show (if st.done = [] then st.out else st.out ++ [st.done]) = _
  split <;> simp
/-- A text with lines behind it: wrong where it was, or its lines are ahead of others. -/
theorem lex_more {s m : ByteArray} (hz : s.size + m.size ≤ 599) (hm : ∀ b ∈ bl m, b.toNat = 10 ∨ (32 ≤ b.toNat ∧ b.toNat ≤ 126)) :
    (∀ e p, lexP s = .bad e p → lexP (s ++ ofL [10] ++ m) = .bad e p) ∧ (∀ L, lexP s = .good L → ∃ L', lexP (s ++ ofL [10] ++ m) = .good (L ++ L')) := by
  have hs2 : (s ++ ofL [10] ++ m).size ≤ 600 := by
    rw [ByteArray.size_append, ByteArray.size_append, ofL_size]
    simp
    omega
  rw [lexP_goW (s := s) (by omega), lexP_goW hs2, bl_append, bl_append, bl_ofL, List.append_assoc]
  cases hg : goW (bl s) 0 lx0 with
  | inl q =>
    rw [goW_bad hg]
    exact ⟨fun e p h => h, fun L h => by cases h⟩
  | inr st =>
    rw [goW_more hg]
    refine ⟨fun e p h => (by cases h), fun L h => ?_⟩
    injection h with h
    subst h
    obtain ⟨st2, L2, h3, h4⟩ := goW_fine (bl m) (0 + (bl s).length + 1) st.feed hm
    obtain ⟨L3, h5⟩ := feed_more_out st2
    refine ⟨L2 ++ L3, ?_⟩
    have h6 : goW ([10] ++ bl m) (0 + (bl s).length) st = .inr st2 := h3
    rw [h6]
    show LxR.good st2.feed.out = _
    rw [h5, h4, List.append_assoc]
theorem lines_append : ∀ (L M : List (List Wd)) (acc : List LnP) (f : FaP), linesP acc L = .inl f → linesP acc (L ++ M) = .inl f
  | [], M, acc, f, h => by rw [linesP] at h; cases h
  | l :: L, M, acc, f, h => by
    rw [List.cons_append]
    cases hl : lineP l (acc.map (·.name)) with
    | inl g =>
      rw [lines_bad hl] at h ⊢
      exact h
    | inr x =>
      rw [lines_good hl] at h ⊢
      exact lines_append L M _ f h
theorem places_err (names : List ByteArray) : ∀ (ws : List Wd) (acc : List Nat) (f : FaP), placesP names acc ws = .inl f → f.e = 6
  | [], acc, f, h => by rw [placesP] at h; cases h
  | w :: ws, acc, f, h => by
    rw [placesP] at h
    split at h
    · injection h with h
      rw [← h]
    · exact places_err names ws _ f h
theorem tasks_err (names : List ByteArray) : ∀ (xs : List LnP) (acc : List TkP) (f : FaP), tasksP names acc xs = .inl f → f.e = 6
  | [], acc, f, h => by rw [tasksP] at h; cases h
  | x :: xs, acc, f, h => by
    rw [tasksP] at h
    split at h
    · rename_i g hg
      injection h with h
      subst h
      exact places_err _ _ _ _ hg
    · exact tasks_err names xs _ f h
/-- What is wrong in a text's line is wrong there with any lines behind it. -/
theorem parse_first {s m : ByteArray} (hz : s.size + m.size ≤ 599) (hm : ∀ b ∈ bl m, b.toNat = 10 ∨ (32 ≤ b.toNat ∧ b.toNat ≤ 126)) {f : FaP} (h : parseP s = .inl f) (h6 : f.e ≠ 6) : parseP (s ++ ofL [10] ++ m) = .inl f := by
  obtain ⟨k1, k2⟩ := lex_more hz hm
  unfold parseP at h
  split at h
  · rename_i e p hl
    rw [parse_lex (k1 e p hl)]
    exact h
  · injection h with h
    exact absurd (by rw [← h]) h6
  · rename_i l0 L hl
    obtain ⟨L', hL⟩ := k2 _ hl
    unfold parseP
    rw [hL, List.cons_append]
    dsimp only
    split at h
    · rename_i hc
      rw [if_pos hc]
      exact h
    · rename_i hc
      rw [if_neg hc]
      split at h
      · rename_i hc
        rw [if_pos hc]
        exact h
      · rename_i hc
        rw [if_neg hc]
        split at h
        · rename_i hc
          rw [if_pos hc]
          exact h
        · rename_i hc
          rw [if_neg hc]
          split at h
          · rename_i g hg
            rw [lines_append L L' [] g hg]
            exact h
          · injection h with h
            exact absurd (by rw [← h]) h6
          · split at h
            · rename_i g hg
              injection h with h
              subst h
              exact absurd (tasks_err _ _ _ _ hg) h6
            · cases h
theorem lines_err : ∀ (L : List (List Wd)) (acc : List LnP) (f : FaP), linesP acc L = .inl f → (f.e : Int) ≠ 0
  | [], acc, f, h => by rw [linesP] at h; cases h
  | l :: L, acc, f, h => by
    rw [linesP] at h
    split at h
    · rename_i g hg
      injection h with h
      subst h
      exact line_err hg
    · exact lines_err L _ f h
/-- What is wrong has a number. -/
theorem parse_err {s : ByteArray} {f : FaP} (h : parseP s = .inl f) : (f.e : Int) ≠ 0 := by
  unfold parseP at h
  split at h
  · rename_i e p hl
    injection h with h
    rw [← h]
    exact lexP_bad hl
  · injection h with h
    rw [← h]
    simp
  · split at h
    · injection h with h
      rw [← h]
      simp
    · split at h
      · injection h with h
        rw [← h]
        simp
      · split at h
        · injection h with h
          rw [← h]
          simp
        · split at h
          · rename_i g hg
            injection h with h
            subst h
            exact lines_err _ _ _ hg
          · injection h with h
            rw [← h]
            simp
          · split at h
            · rename_i g hg
              injection h with h
              subst h
              have := tasks_err _ _ _ _ hg
              omega
            · cases h
/-- Unlike numbers below n: at most n of them. -/
theorem few_below : ∀ (n : Nat) (l : List Nat), (∀ j ∈ l, j < n) → l.Nodup → l.length ≤ n
  | 0, l, h, _ => by
    cases l with
    | nil => exact Nat.le_refl _
    | cons x l => exact absurd (h x (by simp)) (Nat.not_lt_zero _)
  | n + 1, l, h, hd => by
    have h1 := few_below n (l.erase n) (fun j hj => by
      obtain ⟨h2, h3⟩ := (hd.mem_erase_iff).1 hj
      have := h j h3
      omega) (hd.erase n)
    have h2 := List.length_erase (a := n) (l := l)
    split at h2 <;> omega
end Go.Proofs.YtcddbpdebklhnaaGreatDoor
