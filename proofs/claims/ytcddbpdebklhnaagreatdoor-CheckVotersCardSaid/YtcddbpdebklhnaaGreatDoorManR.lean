/-
  Pipelines in memory, and what lies there while a text's lines are gone over. No conditions. A text's lines, one after the other: plain facts for a walk over them. No program is named here. What lies in memory while a text's tasks are laid: the lines with their numbers, the tasks. No conditions.
-/
import Derived.Test.YtcddbpdebklhnaaGreatDoorManF
import Derived.Laws.AppendOwn
import Derived.Deep.RegionLaw
namespace Go.Proofs.YtcddbpdebklhnaaGreatDoor
open Go.RowKit

/-- The numbers l stand at A. -/
def NatsAt (w : World) (A : Option Addr) (l : List Nat) : Prop := 0 < l.length → ∃ ad, A = some ad ∧ ∀ (i n : Nat), l[i]? = some n → w.cell? (ad.add i) = some (.int .i64 n)
theorem NatsAt.later {w w' : World} {A : Option Addr} {l : List Nat} (h : NatsAt w A l) (hb : Below w.heap.size w w') : NatsAt w' A l := fun hn => by
  obtain ⟨ad, e, hc⟩ := h hn
  exact ⟨ad, e, fun i n hi => cell_later hb (hc i n hi)⟩
theorem NatsAt.at_ {w : World} {A : Option Addr} {l : List Nat} (h : NatsAt w A l) {i n : Nat} (hi : l[i]? = some n) : ∃ ad, A = some ad ∧ w.cell? (ad.add i) = some (.int .i64 n) := by
  obtain ⟨ad, e, hc⟩ := h (by have := (List.getElem?_eq_some_iff.1 hi).1; omega)
  exact ⟨ad, e, hc i n hi⟩
/-- A task's cells; the tasks ts stand at A. -/
def tkC (t : TkP) (tv : Value) : List Value := [.string t.name, tv, .int .i64 t.retry, .int .i64 t.time, .int .i64 t.need, .int .i64 t.lv, .int .u16 t.st]
def TksAt (w : World) (A : Option Addr) (ts : List TkP) : Prop := 0 < ts.length → ∃ ad, A = some ad ∧ ∀ (i : Nat) (t : TkP), ts[i]? = some t → ∃ B c, (∀ (j : Nat) (v : Value), (tkC t (.slice B t.after.length c))[j]? = some v → w.cell? (ad.add (i * 7 + j)) = some v) ∧ NatsAt w B t.after ∧ t.after.length ≤ c
theorem TksAt.later {w w' : World} {A : Option Addr} {ts : List TkP} (h : TksAt w A ts) (hb : Below w.heap.size w w') : TksAt w' A ts := fun hn => by
  obtain ⟨ad, e, hc⟩ := h hn
  refine ⟨ad, e, fun i t hi => ?_⟩
  obtain ⟨B, c, h1, h2, h3⟩ := hc i t hi
  exact ⟨B, c, fun j v hj => cell_later hb (h1 j v hj), h2.later hb, h3⟩

/-- Rows of cells, one behind the other. -/
theorem flat_len {α : Type} (f : α → List Value) (k : Nat) (hf : ∀ x, (f x).length = k) : ∀ l : List α, (l.flatMap f).length = l.length * k
  | [] => by simp
  | x :: l => by
    simp only [List.flatMap_cons, List.length_append, hf, flat_len f k hf l, List.length_cons]
    rw [Nat.add_mul, Nat.one_mul, Nat.add_comm]
theorem flat_at {α : Type} (f : α → List Value) (k : Nat) (hf : ∀ x, (f x).length = k) : ∀ (l : List α) (i : Nat) (x : α) (j : Nat) (v : Value), l[i]? = some x → (f x)[j]? = some v → (l.flatMap f)[i * k + j]? = some v
  | [], i, x, j, v, h, _ => by simp at h
  | y :: l, 0, x, j, v, h, hv => by
    obtain rfl : y = x := by simpa using h
    rw [Nat.zero_mul, Nat.zero_add, List.flatMap_cons, List.getElem?_append_left (List.getElem?_eq_some_iff.1 hv).1]
    exact hv
  | y :: l, i + 1, x, j, v, h, hv => by
    have h' : l[i]? = some x := by simpa using h
    have ih := flat_at f k hf l i x j v h' hv
    rw [List.flatMap_cons, List.getElem?_append_right (by rw [hf, Nat.add_mul, Nat.one_mul]; omega), hf, show (i + 1) * k + j - k = i * k + j by rw [Nat.add_mul, Nat.one_mul]; omega]
    exact ih
/-- One cell of one of them is another one. -/
theorem flat_set {α : Type} (f : α → List Value) (k : Nat) (hf : ∀ x, (f x).length = k) : ∀ (l : List α) (i : Nat) (x y : α) (j : Nat) (v : Value), l[i]? = some x → j < k → f y = (f x).set j v → (l.flatMap f).set (i * k + j) v = (l.set i y).flatMap f
  | [], i, x, y, j, v, h, _, _ => by simp at h
  | z :: l, 0, x, y, j, v, h, hj, e => by
    obtain rfl : z = x := by simpa using h
    rw [Nat.zero_mul, Nat.zero_add, List.set_cons_zero, List.flatMap_cons, List.flatMap_cons, e, List.set_append_left _ _ (by rw [hf]; exact hj)]
  | z :: l, i + 1, x, y, j, v, h, hj, e => by
    have h' : l[i]? = some x := by simpa using h
    have ih := flat_set f k hf l i x y j v h' hj e
    rw [List.set_cons_succ, List.flatMap_cons, List.flatMap_cons, List.set_append_right _ _ (by rw [hf, Nat.add_mul, Nat.one_mul]; omega), hf, show (i + 1) * k + j - k = i * k + j by rw [Nat.add_mul, Nat.one_mul]; omega, ih]

section
variable {w W W' : World} {b : Nat} {ns : List ByteArray} {ys : List (LnP × Value)} {vn vl vn' vl' : Value}
end
def ParseOut (w : World) (r : FaP ⊕ PiP) (e : Ending) (w' : World) : Prop := Below w.heap.size w w' ∧ match r with
  | .inl f => e = .returned (.tuple #[.agg #[.string ⟨#[]⟩, .slice none 0 0], .int .i64 f.e, .int .i64 f.p])
  | .inr p => ∃ A c, e = .returned (.tuple #[.agg #[.string p.name, .slice A p.tasks.length c], .int .i64 0, .int .i64 0]) ∧ TksAt w' A p.tasks
theorem info_pi : (Tryz.prog.info? 24).map (·.size) = some 2 := by kernel_rfl
theorem info_task : (Tryz.prog.info? 43).map (fun i => (i.zero, i.size, i.bytes)) = some (some (.agg #[.string ⟨#[]⟩, .slice none 0 0, .int .i64 0, .int .i64 0, .int .i64 0, .int .i64 0, .int .u16 0]), 7, 80) := by kernel_rfl
theorem info_int : (Tryz.prog.info? 3).map (fun i => (i.zero, i.size, i.bytes)) = some (some (.int .i64 0), 1, 8) := by kernel_rfl
end Go.Proofs.YtcddbpdebklhnaaGreatDoor

namespace Go.Proofs.YtcddbpdebklhnaaGreatDoor

theorem lexGo_some (s : ByteArray) : ∀ (f k : Nat) (st : LxS) (L : List (List Wd)), (∀ l ∈ st.out, l ≠ []) → lexGo s f k st = .good L → ∀ l ∈ L, l ≠ [] := by
  have hfeed : ∀ st : LxS, (∀ l ∈ st.out, l ≠ []) → ∀ l ∈ st.feed.out, l ≠ [] := fun st h l hl => by
    have hl2 : l ∈ (if st.done = [] then st.out else st.out ++ [st.done]) := hl
    split at hl2
    · exact h l hl2
    · rename_i hd
      rcases List.mem_append.1 hl2 with hl2 | hl2
      · exact h l hl2
      · obtain rfl := List.mem_singleton.1 hl2
        exact hd
  intro f
  induction f with
  | zero =>
    intro k st L h e
    rw [lexGo_end] at e
    injection e with e
    rw [← e]
    exact hfeed st h
  | succ f ih =>
    intro k st L h e
    by_cases h1 : 32 < byL s k ∧ byL s k < 127
    · rw [lexGo_word h1.1 h1.2] at e
      exact ih _ (st.push (s.extract k (k + 1)) k) L (fun l hl => h l hl) e
    · by_cases h2 : byL s k = 10
      · rw [lexGo_feed h2] at e
        exact ih _ _ L (hfeed st h) e
      · by_cases h3 : byL s k = 32
        · rw [lexGo_space h3] at e
          exact ih _ st.space L (fun l hl => h l hl) e
        · rw [lexGo_bad h1 h2 h3] at e
          cases e
theorem lexP_some {s : ByteArray} {L : List (List Wd)} (h : lexP s = .good L) : s.size ≤ 600 ∧ ∀ l ∈ L, l ≠ [] := by
  unfold lexP at h
  split at h
  · cases h
  · exact ⟨by omega, lexGo_some s _ _ _ L (fun l hl => absurd hl (by show l ∉ []; simp)) h⟩
theorem lexP_words {s : ByteArray} {L : List (List Wd)} (h : lexP s = .good L) {l : List Wd} (hl : l ∈ L) : l.length ≤ 1000 ∧ ∀ a ∈ l, a.t.size ≤ 1000 ∧ a.p ≤ 1000 := by
  obtain ⟨h6, _⟩ := lexP_some h
  obtain ⟨_, h2⟩ := lexP_ok h
  obtain ⟨h3, h4⟩ := h2 l hl
  refine ⟨by omega, fun a ha => ?_⟩
  have := (h4 a ha).1
  omega

/-- Behind all lines; behind all tasks. -/
def endT (name : ByteArray) : FaP ⊕ List TkP → FaP ⊕ PiP
  | .inl e => .inl e
  | .inr ts => .inr ⟨name, ts⟩
def endL (name : ByteArray) (n : Nat) : FaP ⊕ List LnP → FaP ⊕ PiP
  | .inl e => .inl e
  | .inr [] => .inl ⟨6, n⟩
  | .inr (x :: xs) => endT name (tasksP ((x :: xs).map (·.name)) [] (x :: xs))
theorem endL_some {name : ByteArray} {n : Nat} {xs : List LnP} (h : xs ≠ []) : endL name n (.inr xs) = endT name (tasksP (xs.map (·.name)) [] xs) := by
  cases xs with
  | nil => exact absurd rfl h
  | cons x xs => rfl
section
variable {s : ByteArray} {a b : Wd} {l0 : List Wd} {L : List (List Wd)}
theorem parse_lex {e p : Nat} (h : lexP s = .bad e p) : parseP s = .inl ⟨e, p⟩ := by
  unfold parseP
  rw [h]
theorem parse_none (h : lexP s = .good []) : parseP s = .inl ⟨6, s.size⟩ := by
  unfold parseP
  rw [h]
theorem parse_17 (h : lexP s = .good (l0 :: L)) (ha : l0[0]? = some a) (hp : a.t ≠ sPipe) : parseP s = .inl ⟨17, a.p⟩ := by
  have hga : l0.getD 0 default = a := by rw [List.getD_eq_getElem?_getD, ha]; rfl
  unfold parseP
  rw [h]
  dsimp only
  rw [hga, if_pos hp]
theorem parse_3 (h : lexP s = .good (l0 :: L)) (ha : l0[0]? = some a) (hp : a.t = sPipe) (hl : l0.length ≠ 2) : parseP s = .inl ⟨3, a.p⟩ := by
  have hga : l0.getD 0 default = a := by rw [List.getD_eq_getElem?_getD, ha]; rfl
  unfold parseP
  rw [h]
  dsimp only
  rw [hga, if_neg (by simp [hp]), if_pos hl]
theorem parse_15 (h : lexP s = .good (l0 :: L)) (ha : l0[0]? = some a) (hb : l0[1]? = some b) (hp : a.t = sPipe) (hl : l0.length = 2) (hn : nameP b.t = false) : parseP s = .inl ⟨15, b.p⟩ := by
  have hga : l0.getD 0 default = a := by rw [List.getD_eq_getElem?_getD, ha]; rfl
  have hgb : l0.getD 1 default = b := by rw [List.getD_eq_getElem?_getD, hb]; rfl
  unfold parseP
  rw [h]
  dsimp only
  rw [hga, hgb, if_neg (by simp [hp]), if_neg (by simp [hl]), if_pos hn]
theorem parse_go (h : lexP s = .good (l0 :: L)) (ha : l0[0]? = some a) (hb : l0[1]? = some b) (hp : a.t = sPipe) (hl : l0.length = 2) (hn : nameP b.t = true) : parseP s = endL b.t s.size (linesP [] L) := by
  have hga : l0.getD 0 default = a := by rw [List.getD_eq_getElem?_getD, ha]; rfl
  have hgb : l0.getD 1 default = b := by rw [List.getD_eq_getElem?_getD, hb]; rfl
  unfold parseP
  rw [h]
  dsimp only
  rw [hga, hgb, if_neg (by simp [hp]), if_neg (by simp [hl]), if_neg (by rw [hn]; decide)]
  unfold endL endT
  cases linesP [] L with
  | inl e => rfl
  | inr xs =>
    cases xs with
    | nil => rfl
    | cons x xs =>
      cases tasksP ((x :: xs).map (·.name)) [] (x :: xs) <;> rfl
end
theorem lines_bad {acc : List LnP} {l : List Wd} {L : List (List Wd)} {f : FaP} (h : lineP l (acc.map (·.name)) = .inl f) : linesP acc (l :: L) = .inl f := by rw [linesP, h]
theorem lines_good {acc : List LnP} {l : List Wd} {L : List (List Wd)} {x : LnP} (h : lineP l (acc.map (·.name)) = .inr x) : linesP acc (l :: L) = linesP (acc ++ [x]) L := by rw [linesP, h]
theorem places_bad {names : List ByteArray} {acc : List Nat} {y : Wd} {l : List Wd} (h : findP names y.t = none) : placesP names acc (y :: l) = .inl ⟨6, y.p⟩ := by rw [placesP, h]
theorem places_good {names : List ByteArray} {acc : List Nat} {y : Wd} {l : List Wd} {n : Nat} (h : findP names y.t = some n) : placesP names acc (y :: l) = placesP names (acc ++ [n]) l := by rw [placesP, h]
theorem tasks_bad {names : List ByteArray} {acc : List TkP} {x : LnP} {l : List LnP} {f : FaP} (h : placesP names [] x.after = .inl f) : tasksP names acc (x :: l) = .inl f := by rw [tasksP, h]
theorem tasks_good {names : List ByteArray} {acc : List TkP} {x : LnP} {l : List LnP} {p : List Nat} (h : placesP names [] x.after = .inr p) : tasksP names acc (x :: l) = tasksP names (acc ++ [⟨x.name, p, x.retry, x.time, x.need, x.lv, x.st⟩]) l := by rw [tasksP, h]

/-- A fault of a line has a number; a task comes behind few. -/
theorem pairs_err {g : Bool} : ∀ (l : List Wd) (seen : List ByteArray) (x : LnP) (f : FaP), pairsP g seen x l = .inl f → (f.e : Int) ≠ 0
  | [], seen, x, f, h => by rw [pairsP] at h; cases h
  | [a], seen, x, f, h => by
    rw [pairsP] at h
    split at h
    · injection h with h; rw [← h]; simp
    · split at h
      · injection h with h; rw [← h]; simp
      · injection h with h; rw [← h]; simp
  | a :: b :: r, seen, x, f, h => by
    rw [pairsP] at h
    split at h
    · injection h with h; rw [← h]; simp
    · split at h
      · injection h with h; rw [← h]; simp
      · split at h
        · rename_i e he
          injection h with h
          subst h
          exact value_err he
        · exact pairs_err r _ _ f h
theorem line_err {l : List Wd} {names : List ByteArray} {f : FaP} (h : lineP l names = .inl f) : (f.e : Int) ≠ 0 := by
  unfold lineP at h
  dsimp only at h
  split at h
  · injection h with h; rw [← h]; simp
  · split at h
    · injection h with h; rw [← h]; simp
    · split at h
      · injection h with h; rw [← h]; simp
      · split at h
        · injection h with h; rw [← h]; simp
        · split at h
          · injection h with h; rw [← h]; simp
          · split at h
            · rename_i e he
              injection h with h
              subst h
              exact pairs_err _ _ _ _ he
            · split at h
              · injection h with h; rw [← h]; simp
              · cases h
theorem value_after_len {N : Nat} {x x' : LnP} {word : ByteArray} {w : Wd} (hw : w.t.size ≤ N) (hx : x.after.length ≤ N + 1) (h : valueP x word w = .inr x') : x'.after.length ≤ N + 1 := by
  unfold valueP at h
  split at h
  · split at h
    · cases h
    · rename_i l hl
      split at h
      · cases h
      · injection h with h
        rw [← h]
        have := namesGo_len w.t w.p w.t.size 0 0 [] l hl
        simp at this
        show l.length ≤ N + 1
        omega
  · split at h
    · split at h
      · cases h
      · injection h with h; rw [← h]; exact hx
    · split at h
      · split at h
        · cases h
        · injection h with h; rw [← h]; exact hx
      · split at h
        · split at h
          · cases h
          · injection h with h; rw [← h]; exact hx
        · split at h
          · split at h
            · cases h
            · injection h with h; rw [← h]; exact hx
          · injection h with h; rw [← h]; exact hx
theorem pairs_after {g : Bool} {N : Nat} : ∀ (l : List Wd) (seen : List ByteArray) (x : LnP) (y : LnP × List ByteArray), (∀ a ∈ l, a.t.size ≤ N) → x.after.length ≤ N + 1 → pairsP g seen x l = .inr y → y.1.after.length ≤ N + 1
  | [], seen, x, y, _, hx, h => by
    rw [pairsP] at h
    injection h with h
    rw [← h]
    exact hx
  | [a], seen, x, y, _, hx, h => by
    rw [pairsP] at h
    split at h
    · cases h
    · split at h
      · cases h
      · cases h
  | a :: b :: r, seen, x, y, hl, hx, h => by
    rw [pairsP] at h
    split at h
    · cases h
    · split at h
      · cases h
      · split at h
        · cases h
        · rename_i x' hx'
          exact pairs_after r _ x' y (fun c hc => hl c (by simp [hc])) (value_after_len (hl b (by simp)) hx hx') h
theorem line_after {l : List Wd} {names : List ByteArray} {N : Nat} {x : LnP} (hl : ∀ a ∈ l, a.t.size ≤ N) (h : lineP l names = .inr x) : names.length ≠ 8 ∧ x.after.length ≤ N + 1 := by
  unfold lineP at h
  dsimp only at h
  split at h
  · cases h
  · rename_i h8
    refine ⟨h8, ?_⟩
    split at h
    · cases h
    · split at h
      · cases h
      · split at h
        · cases h
        · split at h
          · cases h
          · split at h
            · cases h
            · rename_i y seen he
              split at h
              · cases h
              · injection h with h
                subst h
                exact pairs_after _ _ _ _ (fun a ha => hl a (List.mem_of_mem_drop ha)) (Nat.zero_le _) he
end Go.Proofs.YtcddbpdebklhnaaGreatDoor

namespace Go.Proofs.YtcddbpdebklhnaaGreatDoor
open Go.RowKit

theorem drop_any {α : Type} {l : List α} {k : Nat} {y : α} (h : l[k]? = some y) : l.drop k = y :: l.drop (k + 1) := by
  obtain ⟨hk, rfl⟩ := List.getElem?_eq_some_iff.1 h
  exact List.drop_eq_getElem_cons hk
def set2 (W : World) (B : Nat) (n : ByteArray) (v : Value) : World := (W.setCell ⟨B, 0, none⟩ (.string n)).setCell ⟨B, 1, none⟩ v
section
variable {w W : World} {B : Nat} {cs : Array Value} {t : TypeId} {m : Nat × Nat}
theorem set2_row (h : W.heap[B]? = some (.cells cs t m)) (hc : cs.size = 2) (n : ByteArray) (v : Value) : (set2 W B n v).heap[B]? = some (.cells #[.string n, v] t m) := by
  have h0 := row_set (i := 0) (v := .string n) h
  have h1 := row_set (i := 1) (v := v) h0
  refine h1.trans ?_
  have : cs = #[cs[0]'(by omega), cs[1]'(by omega)] := by
    apply Array.ext
    · simpa using hc
    · intro i h1 h2
      have : i = 0 ∨ i = 1 := by omega
      rcases this with rfl | rfl <;> rfl
  rw [this]
  simp
theorem set2_below (h : Below w.heap.size w W) (n : ByteArray) (v : Value) : Below w.heap.size w (set2 W w.heap.size n v) :=
  (h.setCell (p := ⟨w.heap.size, 0, none⟩) (Nat.le_refl _) (.string n)).setCell (p := ⟨w.heap.size, 1, none⟩) (Nat.le_refl _) v
theorem set2_other {g : Nat} (hg : g ≠ B) (n : ByteArray) (v : Value) : (set2 W B n v).heap[g]? = W.heap[g]? := by
  have o : ∀ (V : World) (i : Nat) (v : Value), (V.setCell ⟨B, i, none⟩ v).heap[g]? = V.heap[g]? := fun V i v => Below.heap_setCell V ⟨B, i, none⟩ v g (by simpa using hg)
  unfold set2
  rw [o, o]
theorem set2_cell {x : Addr} (hx : x.block ≠ B) (n : ByteArray) (v : Value) : (set2 W B n v).cell? x = W.cell? x := by
  unfold World.cell?
  rw [set2_other hx]
/-- A result of two cells is written. -/
theorem fin2 (hz : W.heap[w.heap.size]? = some (.cells cs t (0, 0))) (hc : cs.size = 2) (hb : Below w.heap.size w W) (n : ByteArray) (v : Value) : (set2 W w.heap.size n v).heap[w.heap.size]? = some (.cells #[.string n, v] t (0, 0)) ∧ Below w.heap.size w (set2 W w.heap.size n v) :=
  ⟨set2_row hz hc n v, set2_below hb n v⟩
end

/-- append onto a row of the call's own, as one step of a region that draws. -/
theorem step_append_own {P : Program} (w : World) {ops : Array Oper} {o : Oper} {a : Act} {K : Act → World → Prop} {Q : Exit → Act → World → Prop} {E : Prop} (hgd : o.guard = none) (s x : Operand) (t : TypeId)
    (ho : o.op = .call { callee := .builtin .append, args := #[s, x], argTypes := #[t, t] })
    (base : Nat) (e : TypeId) (i : TypeInfo) (z : Value) (size bytes : Nat) (ht : P.underlying t = some (.slice e)) (hi : P.info? e = some i) (hz : i.zero = some z)
    (hsize : i.size = size) (hby : i.bytes = bytes) (hzs : z.cells.size = size) (hsz : 0 < size)
    (v : Value) (n : Nat) (xs : List Value) (hs : a.eval s = v) (hown : w.ownsRow base e size v n xs)
    (ad : Addr) (m c : Nat) (news : List Value) (hx : a.eval x = .slice (some ad) m c) (hl : news.length = m * size) (hnews : ∀ j u, news[j]? = some u → w.cell? (ad.add j) = some u) (h1 : ∀ u ∈ news, u.oneCell' = true)
    (h63 : n + m ≤ maxLen) (hbytes : (n + m) * bytes ≤ 140737488355328) (hbase : base ≤ w.heap.size)
    (h : ∀ v' w', w'.ownsRow base e size v' (n + m) (xs ++ news) → w.grownBy w' v.ownBlock → (v' = .slice none 0 0 ↔ v = .slice none 0 0 ∧ m = 0) → K (a.put o.dst v') w') :
    if Region.wanted o (yielded ops a.tmps) = true then Oper.wp P o a w K Q else E := by
  have hw : Region.wanted o (yielded ops a.tmps) = true := by simp [Region.wanted, hgd]
  rw [if_pos hw]
  exact wp_append_own w s x t ho base e i z size bytes ht hi hz hsize hby hzs hsz v n xs hs hown ad m c news hx hl hnews h1 h63 hbytes hbase h

/-- Numbers in a row of their own, in a block below lb. -/
def NatsRow (w : World) (lb : Nat) (A : Option Addr) (l : List Nat) : Prop := 0 < l.length → ∃ (g : Nat) (cur : Array Value), A = some ⟨g, 0, none⟩ ∧ g < lb ∧ w.heap[g]? = some (.cells cur 3 (0, 0)) ∧ cur.toList.take l.length = l.map (fun n => Value.int .i64 (n : Nat))
theorem NatsRow.nats {w : World} {lb : Nat} {A : Option Addr} {l : List Nat} (h : NatsRow w lb A l) : NatsAt w A l := fun hn => by
  obtain ⟨g, cur, rfl, _, h1, h2⟩ := h hn
  refine ⟨_, rfl, fun i n hi => ?_⟩
  have hadd : (⟨g, 0, none⟩ : Addr).add i = ⟨g, i, none⟩ := by unfold Addr.add; split <;> simp_all
  rw [hadd, cellH h1]
  have h3 : (cur.toList.take l.length)[i]? = some (Value.int .i64 (n : Nat)) := by rw [h2, List.getElem?_map, hi]; rfl
  rw [List.getElem?_take] at h3
  split at h3
  · simpa using h3
  · exact absurd h3 (by simp)
theorem NatsRow.frame {w w' : World} {lb lb' : Nat} {A : Option Addr} {l : List Nat} (h : NatsRow w lb A l) (hl : lb ≤ lb') (hf : ∀ (g : Nat) (cur : Array Value), g < lb → w.heap[g]? = some (.cells cur 3 (0, 0)) → w'.heap[g]? = w.heap[g]?) : NatsRow w' lb' A l := fun hn => by
  obtain ⟨g, cur, e, h0, h1, h2⟩ := h hn
  exact ⟨g, cur, e, Nat.lt_of_lt_of_le h0 hl, (hf g cur h0 h1).trans h1, h2⟩
theorem nats_own {W : World} {b n : Nat} {v : Value} {l : List Nat} (h : W.ownsRow b 3 1 v n (l.map (fun n => Value.int .i64 (n : Nat)))) : ∃ A c, v = .slice A l.length c ∧ NatsRow W W.heap.size A l ∧ l.length ≤ c := by
  have hl := h.1
  rw [List.length_map, Nat.mul_one] at hl
  rcases h.2 with ⟨rfl, e⟩ | ⟨g, cap, cur, rfl, _, hq, hcp, _, _, ht⟩
  · exact ⟨none, 0, by rw [hl, e], fun h0 => absurd h0 (by omega), by omega⟩
  · rw [hl]
    refine ⟨_, cap, rfl, fun _ => ⟨g, cur, rfl, (Array.getElem?_eq_some_iff.1 hq).1, hq, ?_⟩, hcp⟩
    rw [hl]
    simpa using ht

/-- A line's cells, its numbers among them. -/
def lnI (z : LnP × Value × Value) : List Value := [.string z.1.name, z.2.2, .int .i64 z.1.retry, .int .i64 z.1.time, .int .i64 z.1.need, .int .i64 z.1.lv, .int .u16 z.1.st, z.2.1]
section
variable {w W W' : World} {b P g lb : Nat} {nm : ByteArray} {ns : List ByteArray} {vn vt : Value} {zs : List (LnP × Value × Value)} {qs : List (TkP × Value)}
theorem row_keep {B q i : Nat} {v : Value} (hq : q ≠ B) : (W.setCell ⟨B, i, none⟩ v).heap[q]? = W.heap[q]? := Below.heap_setCell W ⟨B, i, none⟩ v q (by simpa using hq)
end
end Go.Proofs.YtcddbpdebklhnaaGreatDoor
