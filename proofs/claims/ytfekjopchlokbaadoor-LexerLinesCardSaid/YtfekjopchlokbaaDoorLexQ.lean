/-
  A text's words lie in it where they are said to lie, and there are not too many of them. No program is named here.
-/
import Derived.Test.YtfekjopchlokbaaDoorLexP
namespace Go.Proofs.YtfekjopchlokbaaDoor

/-- The word lies in the text at its place. -/
def Lies (s : ByteArray) (x : Wd) : Prop := x.p + x.t.size ≤ s.size ∧ s.extract x.p (x.p + x.t.size) = x.t
structure LxOk (s : ByteArray) (k : Nat) (st : LxS) : Prop where
  o1 : st.out.length ≤ k
  o2 : ∀ l ∈ st.out, l.length ≤ k ∧ ∀ x ∈ l, Lies s x
  l1 : st.line.length ≤ k
  l2 : ∀ x ∈ st.line, Lies s x
  w1 : st.word ≠ .empty → st.at_ ≤ k ∧ st.word = s.extract st.at_ k
section
variable {s : ByteArray} {k : Nat} {st : LxS}
theorem ok_done (h : LxOk s k st) (hk : k ≤ s.size) : st.done.length ≤ k + 1 ∧ ∀ x ∈ st.done, Lies s x := by
  unfold LxS.done
  have h1 := h.l1
  by_cases hw : st.word = .empty
  · rw [if_pos hw]
    exact ⟨by omega, h.l2⟩
  · rw [if_neg hw]
    obtain ⟨ha, he⟩ := h.w1 hw
    refine ⟨by simp; omega, fun x hx => ?_⟩
    rcases List.mem_append.1 hx with hx | hx
    · exact h.l2 x hx
    · obtain rfl := List.mem_singleton.1 hx
      have hs : st.word.size = k - st.at_ := by rw [he, ByteArray.size_extract]; omega
      refine ⟨by show st.at_ + st.word.size ≤ s.size; omega, ?_⟩
      show s.extract st.at_ (st.at_ + st.word.size) = st.word
      rw [show st.at_ + st.word.size = k by omega, ← he]
theorem ok_push (h : LxOk s k st) : LxOk s (k + 1) (st.push (s.extract k (k + 1)) k) := by
  have h1 := h.l1
  have h2 := h.o1
  refine ⟨Nat.le_succ_of_le h2, fun l hl => ⟨Nat.le_succ_of_le (h.o2 l hl).1, (h.o2 l hl).2⟩, Nat.le_succ_of_le h1, h.l2, fun _ => ?_⟩
  show (if st.word = .empty then k else st.at_) ≤ k + 1 ∧ st.word ++ s.extract k (k + 1) = s.extract (if st.word = .empty then k else st.at_) (k + 1)
  by_cases hw : st.word = .empty
  · rw [if_pos hw, hw]
    exact ⟨by omega, ByteArray.empty_append⟩
  · rw [if_neg hw]
    obtain ⟨ha, he⟩ := h.w1 hw
    refine ⟨by omega, ?_⟩
    rw [he]
    apply bl_inj
    rw [bl_append, bl_extract, bl_extract, bl_extract]
    rw [List.drop_take, List.drop_take, List.drop_take]
    rw [show k + 1 - st.at_ = (k - st.at_) + 1 by omega, List.take_add (l := (bl s).drop st.at_), List.drop_drop, show st.at_ + (k - st.at_) = k by omega, show k + 1 - k = 1 by omega]
theorem ok_space (h : LxOk s k st) (hk : k ≤ s.size) : LxOk s (k + 1) st.space := by
  obtain ⟨d1, d2⟩ := ok_done h hk
  exact ⟨Nat.le_succ_of_le h.o1, fun l hl => ⟨Nat.le_succ_of_le (h.o2 l hl).1, (h.o2 l hl).2⟩, d1, d2, fun hn => absurd rfl hn⟩
theorem ok_feed (h : LxOk s k st) (hk : k ≤ s.size) : LxOk s (k + 1) st.feed := by
  obtain ⟨d1, d2⟩ := ok_done h hk
  have h2 := h.o1
  refine ⟨?_, ?_, Nat.zero_le _, fun x hx => absurd hx (by show x ∉ []; simp), fun hn => absurd rfl hn⟩
  · show (if st.done = [] then st.out else st.out ++ [st.done]).length ≤ k + 1
    split
    · omega
    · simp; omega
  · show ∀ l ∈ (if st.done = [] then st.out else st.out ++ [st.done]), l.length ≤ k + 1 ∧ ∀ x ∈ l, Lies s x
    intro l hl
    split at hl
    · exact ⟨Nat.le_succ_of_le (h.o2 l hl).1, (h.o2 l hl).2⟩
    · rcases List.mem_append.1 hl with hl | hl
      · exact ⟨Nat.le_succ_of_le (h.o2 l hl).1, (h.o2 l hl).2⟩
      · obtain rfl := List.mem_singleton.1 hl
        exact ⟨d1, d2⟩
end
theorem lexGo_ok (s : ByteArray) : ∀ (f k : Nat) (st : LxS) (L : List (List Wd)), k + f = s.size → LxOk s k st → lexGo s f k st = .good L → L.length ≤ s.size + 1 ∧ ∀ l ∈ L, l.length ≤ s.size + 1 ∧ ∀ x ∈ l, Lies s x
  | 0, k, st, L, hk, h, e => by
    have h2 := ok_feed h (by omega)
    obtain rfl : st.feed.out = L := by
      rw [lexGo_end] at e
      injection e
    obtain rfl : k = s.size := by omega
    exact ⟨h2.o1, h2.o2⟩
  | f + 1, k, st, L, hk, h, e => by
    by_cases h1 : 32 < byL s k ∧ byL s k < 127
    · rw [lexGo_word h1.1 h1.2] at e
      exact lexGo_ok s f (k + 1) _ L (by omega) (ok_push h) e
    · by_cases h2 : byL s k = 10
      · rw [lexGo_feed h2] at e
        exact lexGo_ok s f (k + 1) _ L (by omega) (ok_feed h (by omega)) e
      · by_cases h3 : byL s k = 32
        · rw [lexGo_space h3] at e
          exact lexGo_ok s f (k + 1) _ L (by omega) (ok_space h (by omega)) e
        · rw [lexGo_bad h1 h2 h3] at e
          cases e
theorem lexP_ok {s : ByteArray} {L : List (List Wd)} (h : lexP s = .good L) : L.length ≤ s.size + 1 ∧ ∀ l ∈ L, l.length ≤ s.size + 1 ∧ ∀ x ∈ l, Lies s x := by
  unfold lexP at h
  split at h
  · cases h
  · exact lexGo_ok s s.size 0 lx0 L (by omega) ⟨Nat.le_refl _, fun l hl => absurd hl (by show l ∉ []; simp), Nat.le_refl _, fun l hl => absurd hl (by show l ∉ []; simp), fun hn => absurd rfl hn⟩ h
theorem lexGo_wrong (s : ByteArray) : ∀ (f k : Nat) (st : LxS) (x p : Nat), lexGo s f k st = .bad x p → x = 3
  | 0, k, st, x, p, e => by rw [lexGo_end] at e; cases e
  | f + 1, k, st, x, p, e => by
    by_cases h1 : 32 < byL s k ∧ byL s k < 127
    · rw [lexGo_word h1.1 h1.2] at e
      exact lexGo_wrong s f _ _ x p e
    · by_cases h2 : byL s k = 10
      · rw [lexGo_feed h2] at e
        exact lexGo_wrong s f _ _ x p e
      · by_cases h3 : byL s k = 32
        · rw [lexGo_space h3] at e
          exact lexGo_wrong s f _ _ x p e
        · rw [lexGo_bad h1 h2 h3] at e
          injection e with e1 _
          exact e1.symm
theorem lexP_bad {s : ByteArray} {x p : Nat} (h : lexP s = .bad x p) : (x : Int) ≠ 0 := by
  unfold lexP at h
  split at h
  · injection h with e1 _
    omega
  · have := lexGo_wrong s _ _ _ x p h
    omega
end Go.Proofs.YtfekjopchlokbaaDoor
