/-
  A text's lines, one after the other: plain facts for a walk over them. No program is named here.
-/
import Derived.Test.YtpndjeccfdcjpaaManE
namespace Go.Proofs.Ytpndjeccfdcjpaa

theorem lexGo_some (s : ByteArray) : ∀ (f k : Nat) (st : LxS) (L : List (List Wd)), (∀ l ∈ st.out, l ≠ []) → lexGo s f k st = .good L → ∀ l ∈ L, l ≠ [] := by
  have hfeed : ∀ st : LxS, (∀ l ∈ st.out, l ≠ []) → ∀ l ∈ st.feed.out, l ≠ [] := fun st h l hl => by
    have hl2 : l ∈ (if st.done = [] then st.out else st.out ++ [st.done]) := hl
    split at hl2
    · exact h l hl2
    · rename_i hd
      rcases List.mem_append.1 hl2 with hl2 | hl2
      · exact h l hl2
      · obtain rfl := List.mem_singleton.1 hl2
        exact hd
  intro f
  induction f with
  | zero =>
    intro k st L h e
    rw [lexGo_end] at e
    injection e with e
    rw [← e]
    exact hfeed st h
  | succ f ih =>
    intro k st L h e
    by_cases h1 : 32 < byL s k ∧ byL s k < 127
    · rw [lexGo_word h1.1 h1.2] at e
      exact ih _ (st.push (s.extract k (k + 1)) k) L (fun l hl => h l hl) e
    · by_cases h2 : byL s k = 10
      · rw [lexGo_feed h2] at e
        exact ih _ _ L (hfeed st h) e
      · by_cases h3 : byL s k = 32
        · rw [lexGo_space h3] at e
          exact ih _ st.space L (fun l hl => h l hl) e
        · rw [lexGo_bad h1 h2 h3] at e
          cases e
theorem lexP_some {s : ByteArray} {L : List (List Wd)} (h : lexP s = .good L) : s.size ≤ 600 ∧ ∀ l ∈ L, l ≠ [] := by
  unfold lexP at h
  split at h
  · cases h
  · exact ⟨by omega, lexGo_some s _ _ _ L (fun l hl => absurd hl (by show l ∉ []; simp)) h⟩
theorem lexP_words {s : ByteArray} {L : List (List Wd)} (h : lexP s = .good L) {l : List Wd} (hl : l ∈ L) : l.length ≤ 1000 ∧ ∀ a ∈ l, a.t.size ≤ 1000 ∧ a.p ≤ 1000 := by
  obtain ⟨h6, _⟩ := lexP_some h
  obtain ⟨_, h2⟩ := lexP_ok h
  obtain ⟨h3, h4⟩ := h2 l hl
  refine ⟨by omega, fun a ha => ?_⟩
  have := (h4 a ha).1
  omega

/-- Behind all lines; behind all tasks. -/
def endT (name : ByteArray) : FaP ⊕ List TkP → FaP ⊕ PiP
  | .inl e => .inl e
  | .inr ts => .inr ⟨name, ts⟩
def endL (name : ByteArray) (n : Nat) : FaP ⊕ List LnP → FaP ⊕ PiP
  | .inl e => .inl e
  | .inr [] => .inl ⟨6, n⟩
  | .inr (x :: xs) => endT name (tasksP ((x :: xs).map (·.name)) [] (x :: xs))
theorem endL_some {name : ByteArray} {n : Nat} {xs : List LnP} (h : xs ≠ []) : endL name n (.inr xs) = endT name (tasksP (xs.map (·.name)) [] xs) := by
  cases xs with
  | nil => exact absurd rfl h
  | cons x xs => rfl
section
variable {s : ByteArray} {a b : Wd} {l0 : List Wd} {L : List (List Wd)}
theorem parse_lex {e p : Nat} (h : lexP s = .bad e p) : parseP s = .inl ⟨e, p⟩ := by
  unfold parseP
  rw [h]
theorem parse_none (h : lexP s = .good []) : parseP s = .inl ⟨6, s.size⟩ := by
  unfold parseP
  rw [h]
theorem parse_17 (h : lexP s = .good (l0 :: L)) (ha : l0[0]? = some a) (hp : a.t ≠ sPipe) : parseP s = .inl ⟨17, a.p⟩ := by
  have hga : l0.getD 0 default = a := by rw [List.getD_eq_getElem?_getD, ha]; rfl
  unfold parseP
  rw [h]
  dsimp only
  rw [hga, if_pos hp]
theorem parse_3 (h : lexP s = .good (l0 :: L)) (ha : l0[0]? = some a) (hp : a.t = sPipe) (hl : l0.length ≠ 2) : parseP s = .inl ⟨3, a.p⟩ := by
  have hga : l0.getD 0 default = a := by rw [List.getD_eq_getElem?_getD, ha]; rfl
  unfold parseP
  rw [h]
  dsimp only
  rw [hga, if_neg (by simp [hp]), if_pos hl]
theorem parse_15 (h : lexP s = .good (l0 :: L)) (ha : l0[0]? = some a) (hb : l0[1]? = some b) (hp : a.t = sPipe) (hl : l0.length = 2) (hn : nameP b.t = false) : parseP s = .inl ⟨15, b.p⟩ := by
  have hga : l0.getD 0 default = a := by rw [List.getD_eq_getElem?_getD, ha]; rfl
  have hgb : l0.getD 1 default = b := by rw [List.getD_eq_getElem?_getD, hb]; rfl
  unfold parseP
  rw [h]
  dsimp only
  rw [hga, hgb, if_neg (by simp [hp]), if_neg (by simp [hl]), if_pos hn]
theorem parse_go (h : lexP s = .good (l0 :: L)) (ha : l0[0]? = some a) (hb : l0[1]? = some b) (hp : a.t = sPipe) (hl : l0.length = 2) (hn : nameP b.t = true) : parseP s = endL b.t s.size (linesP [] L) := by
  have hga : l0.getD 0 default = a := by rw [List.getD_eq_getElem?_getD, ha]; rfl
  have hgb : l0.getD 1 default = b := by rw [List.getD_eq_getElem?_getD, hb]; rfl
  unfold parseP
  rw [h]
  dsimp only
  rw [hga, hgb, if_neg (by simp [hp]), if_neg (by simp [hl]), if_neg (by rw [hn]; decide)]
  unfold endL endT
  cases linesP [] L with
  | inl e => rfl
  | inr xs =>
    cases xs with
    | nil => rfl
    | cons x xs =>
      cases tasksP ((x :: xs).map (·.name)) [] (x :: xs) <;> rfl
end
theorem lines_bad {acc : List LnP} {l : List Wd} {L : List (List Wd)} {f : FaP} (h : lineP l (acc.map (·.name)) = .inl f) : linesP acc (l :: L) = .inl f := by rw [linesP, h]
theorem lines_good {acc : List LnP} {l : List Wd} {L : List (List Wd)} {x : LnP} (h : lineP l (acc.map (·.name)) = .inr x) : linesP acc (l :: L) = linesP (acc ++ [x]) L := by rw [linesP, h]
theorem places_bad {names : List ByteArray} {acc : List Nat} {y : Wd} {l : List Wd} (h : findP names y.t = none) : placesP names acc (y :: l) = .inl ⟨6, y.p⟩ := by rw [placesP, h]
theorem places_good {names : List ByteArray} {acc : List Nat} {y : Wd} {l : List Wd} {n : Nat} (h : findP names y.t = some n) : placesP names acc (y :: l) = placesP names (acc ++ [n]) l := by rw [placesP, h]
theorem tasks_bad {names : List ByteArray} {acc : List TkP} {x : LnP} {l : List LnP} {f : FaP} (h : placesP names [] x.after = .inl f) : tasksP names acc (x :: l) = .inl f := by rw [tasksP, h]
theorem tasks_good {names : List ByteArray} {acc : List TkP} {x : LnP} {l : List LnP} {p : List Nat} (h : placesP names [] x.after = .inr p) : tasksP names acc (x :: l) = tasksP names (acc ++ [⟨x.name, p, x.retry, x.time, x.need, x.lv, x.st⟩]) l := by rw [tasksP, h]

/-- A fault of a line has a number; a task comes behind few. -/
theorem pairs_err {g : Bool} : ∀ (l : List Wd) (seen : List ByteArray) (x : LnP) (f : FaP), pairsP g seen x l = .inl f → (f.e : Int) ≠ 0
  | [], seen, x, f, h => by rw [pairsP] at h; cases h
  | [a], seen, x, f, h => by
    rw [pairsP] at h
    split at h
    · injection h with h; rw [← h]; simp
    · split at h
      · injection h with h; rw [← h]; simp
      · injection h with h; rw [← h]; simp
  | a :: b :: r, seen, x, f, h => by
    rw [pairsP] at h
    split at h
    · injection h with h; rw [← h]; simp
    · split at h
      · injection h with h; rw [← h]; simp
      · split at h
        · rename_i e he
          injection h with h
          subst h
          exact value_err he
        · exact pairs_err r _ _ f h
theorem line_err {l : List Wd} {names : List ByteArray} {f : FaP} (h : lineP l names = .inl f) : (f.e : Int) ≠ 0 := by
  unfold lineP at h
  dsimp only at h
  split at h
  · injection h with h; rw [← h]; simp
  · split at h
    · injection h with h; rw [← h]; simp
    · split at h
      · injection h with h; rw [← h]; simp
      · split at h
        · injection h with h; rw [← h]; simp
        · split at h
          · injection h with h; rw [← h]; simp
          · split at h
            · rename_i e he
              injection h with h
              subst h
              exact pairs_err _ _ _ _ he
            · split at h
              · injection h with h; rw [← h]; simp
              · cases h
theorem value_after_len {N : Nat} {x x' : LnP} {word : ByteArray} {w : Wd} (hw : w.t.size ≤ N) (hx : x.after.length ≤ N + 1) (h : valueP x word w = .inr x') : x'.after.length ≤ N + 1 := by
  unfold valueP at h
  split at h
  · split at h
    · cases h
    · rename_i l hl
      split at h
      · cases h
      · injection h with h
        rw [← h]
        have := namesGo_len w.t w.p w.t.size 0 0 [] l hl
        simp at this
        show l.length ≤ N + 1
        omega
  · split at h
    · split at h
      · cases h
      · injection h with h; rw [← h]; exact hx
    · split at h
      · split at h
        · cases h
        · injection h with h; rw [← h]; exact hx
      · split at h
        · split at h
          · cases h
          · injection h with h; rw [← h]; exact hx
        · split at h
          · split at h
            · cases h
            · injection h with h; rw [← h]; exact hx
          · injection h with h; rw [← h]; exact hx
theorem pairs_after {g : Bool} {N : Nat} : ∀ (l : List Wd) (seen : List ByteArray) (x : LnP) (y : LnP × List ByteArray), (∀ a ∈ l, a.t.size ≤ N) → x.after.length ≤ N + 1 → pairsP g seen x l = .inr y → y.1.after.length ≤ N + 1
  | [], seen, x, y, _, hx, h => by
    rw [pairsP] at h
    injection h with h
    rw [← h]
    exact hx
  | [a], seen, x, y, _, hx, h => by
    rw [pairsP] at h
    split at h
    · cases h
    · split at h
      · cases h
      · cases h
  | a :: b :: r, seen, x, y, hl, hx, h => by
    rw [pairsP] at h
    split at h
    · cases h
    · split at h
      · cases h
      · split at h
        · cases h
        · rename_i x' hx'
          exact pairs_after r _ x' y (fun c hc => hl c (by simp [hc])) (value_after_len (hl b (by simp)) hx hx') h
theorem line_after {l : List Wd} {names : List ByteArray} {N : Nat} {x : LnP} (hl : ∀ a ∈ l, a.t.size ≤ N) (h : lineP l names = .inr x) : names.length ≠ 8 ∧ x.after.length ≤ N + 1 := by
  unfold lineP at h
  dsimp only at h
  split at h
  · cases h
  · rename_i h8
    refine ⟨h8, ?_⟩
    split at h
    · cases h
    · split at h
      · cases h
      · split at h
        · cases h
        · split at h
          · cases h
          · split at h
            · cases h
            · rename_i y seen he
              split at h
              · cases h
              · injection h with h
                subst h
                exact pairs_after _ _ _ _ (fun a ha => hl a (List.mem_of_mem_drop ha)) (Nat.zero_le _) he
end Go.Proofs.Ytpndjeccfdcjpaa
