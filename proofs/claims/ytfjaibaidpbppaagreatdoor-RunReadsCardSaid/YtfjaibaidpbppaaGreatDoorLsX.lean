/-
  What the document's line (package lockageref08) answers: a line's task, or what is wrong with it. Conditions: a million words at most, of a million bytes, at places below a million; eight names at most. A text's lines, one after the other: plain facts for a walk over them. No program is named here. What the law asks of the program's lexer, in one bundle; Wrong of a Fault. Conditions: what the library's variable errors.errorType holds. LeaseWrites over what Write and Read must do. Conditions: what the library's variables hold. LeaseWrites, walked, over what the program's lease, its Write and Read do. Conditions: what the library's variables hold.
-/
import Derived.Test.YtfjaibaidpbppaaGreatDoorLexI
import Derived.Deep.RegionWith
import Derived.StillTailTactics
import Derived.Test.YtfjaibaidpbppaaGreatDoorLexA
import Derived.Test.YtfjaibaidpbppaaGreatDoorLexB
import Derived.Test.YtfjaibaidpbppaaGreatDoorLsA
import Derived.Test.YtfjaibaidpbppaaGreatDoorLsAw
import Derived.Test.YtfjaibaidpbppaaGreatDoorCodBa
namespace Go.Proofs.YtfjaibaidpbppaaGreatDoor
open Go.RowKit

section
variable {w : World} {A B : Option Addr} {c c2 : Nat} {l : List Wd} {names : List ByteArray}
end
end Go.Proofs.YtfjaibaidpbppaaGreatDoor

namespace Go.Proofs.YtfjaibaidpbppaaGreatDoor

theorem lexGo_some (s : ByteArray) : ∀ (f k : Nat) (st : LxS) (L : List (List Wd)), (∀ l ∈ st.out, l ≠ []) → lexGo s f k st = .good L → ∀ l ∈ L, l ≠ [] := by
  have hfeed : ∀ st : LxS, (∀ l ∈ st.out, l ≠ []) → ∀ l ∈ st.feed.out, l ≠ [] := fun st h l hl => by
    have hl2 : l ∈ (if st.done = [] then st.out else st.out ++ [st.done]) := hl
    split at hl2
    · exact h l hl2
    · rename_i hd
      rcases List.mem_append.1 hl2 with hl2 | hl2
      · exact h l hl2
      · obtain rfl := List.mem_singleton.1 hl2
        exact hd
  intro f
  induction f with
  | zero =>
    intro k st L h e
    rw [lexGo_end] at e
    injection e with e
    rw [← e]
    exact hfeed st h
  | succ f ih =>
    intro k st L h e
    by_cases h1 : 32 < byL s k ∧ byL s k < 127
    · rw [lexGo_word h1.1 h1.2] at e
      exact ih _ (st.push (s.extract k (k + 1)) k) L (fun l hl => h l hl) e
    · by_cases h2 : byL s k = 10
      · rw [lexGo_feed h2] at e
        exact ih _ _ L (hfeed st h) e
      · by_cases h3 : byL s k = 32
        · rw [lexGo_space h3] at e
          exact ih _ st.space L (fun l hl => h l hl) e
        · rw [lexGo_bad h1 h2 h3] at e
          cases e
theorem lexP_some {s : ByteArray} {L : List (List Wd)} (h : lexP s = .good L) : s.size ≤ 600 ∧ ∀ l ∈ L, l ≠ [] := by
  unfold lexP at h
  split at h
  · cases h
  · exact ⟨by omega, lexGo_some s _ _ _ L (fun l hl => absurd hl (by show l ∉ []; simp)) h⟩
theorem lexP_words {s : ByteArray} {L : List (List Wd)} (h : lexP s = .good L) {l : List Wd} (hl : l ∈ L) : l.length ≤ 1000 ∧ ∀ a ∈ l, a.t.size ≤ 1000 ∧ a.p ≤ 1000 := by
  obtain ⟨h6, _⟩ := lexP_some h
  obtain ⟨_, h2⟩ := lexP_ok h
  obtain ⟨h3, h4⟩ := h2 l hl
  refine ⟨by omega, fun a ha => ?_⟩
  have := (h4 a ha).1
  omega

/-- Behind all lines; behind all tasks. -/
def endT (name : ByteArray) : FaP ⊕ List TkP → FaP ⊕ PiP
  | .inl e => .inl e
  | .inr ts => .inr ⟨name, ts⟩
def endL (name : ByteArray) (n : Nat) : FaP ⊕ List LnP → FaP ⊕ PiP
  | .inl e => .inl e
  | .inr [] => .inl ⟨6, n⟩
  | .inr (x :: xs) => endT name (tasksP ((x :: xs).map (·.name)) [] (x :: xs))
theorem endL_some {name : ByteArray} {n : Nat} {xs : List LnP} (h : xs ≠ []) : endL name n (.inr xs) = endT name (tasksP (xs.map (·.name)) [] xs) := by
  cases xs with
  | nil => exact absurd rfl h
  | cons x xs => rfl
section
variable {s : ByteArray} {a b : Wd} {l0 : List Wd} {L : List (List Wd)}
theorem parse_lex {e p : Nat} (h : lexP s = .bad e p) : parseP s = .inl ⟨e, p⟩ := by
  unfold parseP
  rw [h]
theorem parse_none (h : lexP s = .good []) : parseP s = .inl ⟨6, s.size⟩ := by
  unfold parseP
  rw [h]
theorem parse_17 (h : lexP s = .good (l0 :: L)) (ha : l0[0]? = some a) (hp : a.t ≠ sPipe) : parseP s = .inl ⟨17, a.p⟩ := by
  have hga : l0.getD 0 default = a := by rw [List.getD_eq_getElem?_getD, ha]; rfl
  unfold parseP
  rw [h]
  dsimp only
  rw [hga, if_pos hp]
theorem parse_3 (h : lexP s = .good (l0 :: L)) (ha : l0[0]? = some a) (hp : a.t = sPipe) (hl : l0.length ≠ 2) : parseP s = .inl ⟨3, a.p⟩ := by
  have hga : l0.getD 0 default = a := by rw [List.getD_eq_getElem?_getD, ha]; rfl
  unfold parseP
  rw [h]
  dsimp only
  rw [hga, if_neg (by simp [hp]), if_pos hl]
theorem parse_15 (h : lexP s = .good (l0 :: L)) (ha : l0[0]? = some a) (hb : l0[1]? = some b) (hp : a.t = sPipe) (hl : l0.length = 2) (hn : nameP b.t = false) : parseP s = .inl ⟨15, b.p⟩ := by
  have hga : l0.getD 0 default = a := by rw [List.getD_eq_getElem?_getD, ha]; rfl
  have hgb : l0.getD 1 default = b := by rw [List.getD_eq_getElem?_getD, hb]; rfl
  unfold parseP
  rw [h]
  dsimp only
  rw [hga, hgb, if_neg (by simp [hp]), if_neg (by simp [hl]), if_pos hn]
theorem parse_go (h : lexP s = .good (l0 :: L)) (ha : l0[0]? = some a) (hb : l0[1]? = some b) (hp : a.t = sPipe) (hl : l0.length = 2) (hn : nameP b.t = true) : parseP s = endL b.t s.size (linesP [] L) := by
  have hga : l0.getD 0 default = a := by rw [List.getD_eq_getElem?_getD, ha]; rfl
  have hgb : l0.getD 1 default = b := by rw [List.getD_eq_getElem?_getD, hb]; rfl
  unfold parseP
  rw [h]
  dsimp only
  rw [hga, hgb, if_neg (by simp [hp]), if_neg (by simp [hl]), if_neg (by rw [hn]; decide)]
  unfold endL endT
  cases linesP [] L with
  | inl e => rfl
  | inr xs =>
    cases xs with
    | nil => rfl
    | cons x xs =>
      cases tasksP ((x :: xs).map (·.name)) [] (x :: xs) <;> rfl
end
theorem lines_bad {acc : List LnP} {l : List Wd} {L : List (List Wd)} {f : FaP} (h : lineP l (acc.map (·.name)) = .inl f) : linesP acc (l :: L) = .inl f := by rw [linesP, h]
theorem lines_good {acc : List LnP} {l : List Wd} {L : List (List Wd)} {x : LnP} (h : lineP l (acc.map (·.name)) = .inr x) : linesP acc (l :: L) = linesP (acc ++ [x]) L := by rw [linesP, h]
theorem places_bad {names : List ByteArray} {acc : List Nat} {y : Wd} {l : List Wd} (h : findP names y.t = none) : placesP names acc (y :: l) = .inl ⟨6, y.p⟩ := by rw [placesP, h]
theorem places_good {names : List ByteArray} {acc : List Nat} {y : Wd} {l : List Wd} {n : Nat} (h : findP names y.t = some n) : placesP names acc (y :: l) = placesP names (acc ++ [n]) l := by rw [placesP, h]
theorem tasks_bad {names : List ByteArray} {acc : List TkP} {x : LnP} {l : List LnP} {f : FaP} (h : placesP names [] x.after = .inl f) : tasksP names acc (x :: l) = .inl f := by rw [tasksP, h]
theorem tasks_good {names : List ByteArray} {acc : List TkP} {x : LnP} {l : List LnP} {p : List Nat} (h : placesP names [] x.after = .inr p) : tasksP names acc (x :: l) = tasksP names (acc ++ [⟨x.name, p, x.retry, x.time, x.need, x.lv, x.st⟩]) l := by rw [tasksP, h]

/-- A fault of a line has a number; a task comes behind few. -/
theorem pairs_err {g : Bool} : ∀ (l : List Wd) (seen : List ByteArray) (x : LnP) (f : FaP), pairsP g seen x l = .inl f → (f.e : Int) ≠ 0
  | [], seen, x, f, h => by rw [pairsP] at h; cases h
  | [a], seen, x, f, h => by
    rw [pairsP] at h
    split at h
    · injection h with h; rw [← h]; simp
    · split at h
      · injection h with h; rw [← h]; simp
      · injection h with h; rw [← h]; simp
  | a :: b :: r, seen, x, f, h => by
    rw [pairsP] at h
    split at h
    · injection h with h; rw [← h]; simp
    · split at h
      · injection h with h; rw [← h]; simp
      · split at h
        · rename_i e he
          injection h with h
          subst h
          exact value_err he
        · exact pairs_err r _ _ f h
theorem line_err {l : List Wd} {names : List ByteArray} {f : FaP} (h : lineP l names = .inl f) : (f.e : Int) ≠ 0 := by
  unfold lineP at h
  dsimp only at h
  split at h
  · injection h with h; rw [← h]; simp
  · split at h
    · injection h with h; rw [← h]; simp
    · split at h
      · injection h with h; rw [← h]; simp
      · split at h
        · injection h with h; rw [← h]; simp
        · split at h
          · injection h with h; rw [← h]; simp
          · split at h
            · rename_i e he
              injection h with h
              subst h
              exact pairs_err _ _ _ _ he
            · split at h
              · injection h with h; rw [← h]; simp
              · cases h
theorem value_after_len {N : Nat} {x x' : LnP} {word : ByteArray} {w : Wd} (hw : w.t.size ≤ N) (hx : x.after.length ≤ N + 1) (h : valueP x word w = .inr x') : x'.after.length ≤ N + 1 := by
  unfold valueP at h
  split at h
  · split at h
    · cases h
    · rename_i l hl
      split at h
      · cases h
      · injection h with h
        rw [← h]
        have := namesGo_len w.t w.p w.t.size 0 0 [] l hl
        simp at this
        show l.length ≤ N + 1
        omega
  · split at h
    · split at h
      · cases h
      · injection h with h; rw [← h]; exact hx
    · split at h
      · split at h
        · cases h
        · injection h with h; rw [← h]; exact hx
      · split at h
        · split at h
          · cases h
          · injection h with h; rw [← h]; exact hx
        · split at h
          · split at h
            · cases h
            · injection h with h; rw [← h]; exact hx
          · injection h with h; rw [← h]; exact hx
theorem pairs_after {g : Bool} {N : Nat} : ∀ (l : List Wd) (seen : List ByteArray) (x : LnP) (y : LnP × List ByteArray), (∀ a ∈ l, a.t.size ≤ N) → x.after.length ≤ N + 1 → pairsP g seen x l = .inr y → y.1.after.length ≤ N + 1
  | [], seen, x, y, _, hx, h => by
    rw [pairsP] at h
    injection h with h
    rw [← h]
    exact hx
  | [a], seen, x, y, _, hx, h => by
    rw [pairsP] at h
    split at h
    · cases h
    · split at h
      · cases h
      · cases h
  | a :: b :: r, seen, x, y, hl, hx, h => by
    rw [pairsP] at h
    split at h
    · cases h
    · split at h
      · cases h
      · split at h
        · cases h
        · rename_i x' hx'
          exact pairs_after r _ x' y (fun c hc => hl c (by simp [hc])) (value_after_len (hl b (by simp)) hx hx') h
theorem line_after {l : List Wd} {names : List ByteArray} {N : Nat} {x : LnP} (hl : ∀ a ∈ l, a.t.size ≤ N) (h : lineP l names = .inr x) : names.length ≠ 8 ∧ x.after.length ≤ N + 1 := by
  unfold lineP at h
  dsimp only at h
  split at h
  · cases h
  · rename_i h8
    refine ⟨h8, ?_⟩
    split at h
    · cases h
    · split at h
      · cases h
      · split at h
        · cases h
        · split at h
          · cases h
          · split at h
            · cases h
            · rename_i y seen he
              split at h
              · cases h
              · injection h with h
                subst h
                exact pairs_after _ _ _ _ (fun a ha => hl a (List.mem_of_mem_drop ha)) (Nat.zero_le _) he
end Go.Proofs.YtfjaibaidpbppaaGreatDoor

namespace Go.Proofs.YtfjaibaidpbppaaGreatDoor
open Go.RowKit Go.Extern.Stop Go.Stop Go.Extern

theorem FaultAt.later {w w' : World} {F : Nat} {a e : Int} (h : FaultAt w F a e) (hb : Below w.heap.size w w') : FaultAt w' F a e := later_at hb h
theorem FaultAt.low {w : World} {F : Nat} {a e : Int} (h : FaultAt w F a e) : F < w.heap.size := (Array.getElem?_eq_some_iff.1 h).1
/-- An api.Fault as an error. -/
def fltV (F : Nat) : Value := .iface 184 (.pointer (some ⟨F, 0, none⟩))

/-- What Lines answers. -/
def LnsOut (w : World) (r : LxR) (e : Ending) (w' : World) : Prop := Below w.heap.size w w' ∧ match r with
  | .bad x p => ∃ A c F, e = .returned (.tuple #[.slice A (0 : Nat) c, fltV F]) ∧ FaultAt w' F p x
  | .good L => ∃ A c, e = .returned (.tuple #[.slice A L.length c, .nilIface]) ∧ LnsAt w' A L ∧ L.length ≤ c
/-- An answer v, or an error x at p and the answer z. -/
def OneOut (w : World) (r : Option Value) (z : Value) (x p : Int) (e : Ending) (w' : World) : Prop := Below w.heap.size w w' ∧ match r with
  | none => ∃ F, e = .returned (.tuple #[z, fltV F]) ∧ FaultAt w' F p x
  | some v => e = .returned (.tuple #[v, .nilIface])
/-- The names' parts, or an error x at p. -/
def NmsOut (w : World) (r : List Wd ⊕ Int) (e : Ending) (w' : World) : Prop := Below w.heap.size w w' ∧ match r with
  | .inr p => ∃ A c F, e = .returned (.tuple #[.slice A (0 : Nat) c, fltV F]) ∧ FaultAt w' F p 15
  | .inl l => ∃ A c, e = .returned (.tuple #[.slice A l.length c, .nilIface]) ∧ WdsAt w' A l

section
variable {w : World} {F : Nat} {a e0 : Int}
end
end Go.Proofs.YtfjaibaidpbppaaGreatDoor

namespace Go.Proofs.YtfjaibaidpbppaaGreatDoor
open Go.RowKit

/-- A try's six numbers as a text. -/
def sixX (t : TrP) : ByteArray := ((((numX t.st ++ numX t.sn) ++ numX t.ms) ++ numX t.wk) ++ numX t.ls) ++ numX t.un
theorem sixX_bl (t : TrP) (T : ByteArray) : bl (sixX t ++ T) = numT t.st ++ (numT t.sn ++ (numT t.ms ++ (numT t.wk ++ (numT t.ls ++ (numT t.un ++ bl T))))) := by
  unfold sixX
  simp only [bl_append, bl_numX, List.append_assoc]
theorem sixX_front {t u : TrP} {T U : ByteArray} (h : sixX t ++ T = sixX u ++ U) : t = u ∧ T = U := by
  have h1 := congrArg bl h
  rw [sixX_bl, sixX_bl] at h1
  obtain ⟨e0, h1⟩ := numT_front h1
  obtain ⟨e1, h1⟩ := numT_front h1
  obtain ⟨e2, h1⟩ := numT_front h1
  obtain ⟨e3, h1⟩ := numT_front h1
  obtain ⟨e4, h1⟩ := numT_front h1
  obtain ⟨e5, h1⟩ := numT_front h1
  refine ⟨?_, bl_inj h1⟩
  obtain ⟨a0, a1, a2, a3, a4, a5⟩ := t
  obtain ⟨b0, b1, b2, b3, b4, b5⟩ := u
  simp only [] at e0 e1 e2 e3 e4 e5
  rw [e0, e1, e2, e3, e4, e5]
theorem sixX_size {t : TrP} (h : t.In) : (sixX t).size ≤ 126 := by
  have h0 := numX_len h.st.1 h.st.2
  have h1 := numX_len h.sn.1 h.sn.2
  have h2 := numX_len h.ms.1 h.ms.2
  have h3 := numX_len h.wk.1 h.wk.2
  have h4 := numX_len h.ls.1 h.ls.2
  have h5 := numX_len h.un.1 h.un.2
  unfold sixX
  simp only [ByteArray.size_append]
  omega
theorem sixX_ints (t : TrP) : intsX .empty (tryL t) = sixX t := by
  apply bl_inj
  unfold sixX tryL intsX
  simp only [List.foldl_cons, List.foldl_nil, bl_append]
  rfl
/-- What Read has read: a try that may be, and what is left; or it has stopped, and the try is zero. -/
def ReadSpec (S : ByteArray) (z : TrP) (b : Bool) (S' : ByteArray) : Prop := (b = true → z = noTr) ∧ (b = false → rightT z = true ∧ S = sixX z ++ S') ∧ ∀ t T, rightT t = true → S = sixX t ++ T → b = false
theorem ReadSpec.yes {t z : TrP} {b : Bool} {S' : ByteArray} (h : ReadSpec (sixX t) z b S') (ht : rightT t = true) : b = false ∧ z = t ∧ S' = .empty := by
  have hb := h.2.2 t .empty ht (by apply bl_inj; rw [bl_append]; exact (List.append_nil _).symm)
  have h1 := (h.2.1 hb).2
  have h2 : sixX t ++ ByteArray.empty = sixX z ++ S' := by rw [← h1]; apply bl_inj; rw [bl_append]; exact List.append_nil _
  have := sixX_front h2
  exact ⟨hb, this.1.symm, this.2.symm⟩
theorem ReadSpec.no {t z : TrP} {b : Bool} {S' : ByteArray} (h : ReadSpec (sixX t) z b S') (ht : rightT t = false) : b = true ∧ z = noTr := by
  cases b with
  | true => exact ⟨rfl, h.1 rfl⟩
  | false =>
    have h1 := h.2.1 rfl
    have h2 : sixX t ++ ByteArray.empty = sixX z ++ S' := by rw [← h1.2]; apply bl_inj; rw [bl_append]; exact List.append_nil _
    rw [(sixX_front h2).1, h1.1] at ht
    cases ht
/-- What the law asks of the program's Write and Read. -/
structure LsRW : Prop where
  write : ∀ {w W : World} {m P : Nat} {T : ByteArray} (t : TrP), WrB w W m P T → Below w.heap.size w W → m ≤ W.heap.size → t.In → T.size ≤ 1000000 → Calls Tryz.prog 72 #[.pointer (some ⟨P, 0, none⟩), tryV t] W (WroteB w W m P (intsX T (tryL t)))
  read : ∀ {w : World} {R : Nat} {S : ByteArray}, RdAt w R S false → VarsAt w → S.size ≤ 1000000 → Calls Tryz.prog 49 #[.pointer (some ⟨R, 0, none⟩)] w fun e w' => ∃ z b S', e = .returned (tryV z) ∧ RdAt w' R S' b ∧ Only1 R w w' ∧ ReadSpec S z b S'
end Go.Proofs.YtfjaibaidpbppaaGreatDoor

namespace Go.Proofs.YtfjaibaidpbppaaGreatDoor
open Go.RowKit

theorem tr_at0 {W : World} {g : Nat} (h1 : W.heap[g]? = some (.cells (tryA noTr) 73 (0, 0))) :
    W.cell? ⟨g, 0, none⟩ = some (.int .i64 0) ∧ W.cell? ⟨g, 1, none⟩ = some (.int .i64 0) ∧ W.cell? ⟨g, 2, none⟩ = some (.int .i64 0) ∧ W.cell? ⟨g, 3, none⟩ = some (.int .i64 0) ∧ W.cell? ⟨g, 4, none⟩ = some (.int .i64 0) ∧ W.cell? ⟨g, 5, none⟩ = some (.int .i64 0) := tr_at h1
section
variable {w W V : World} {m P R : Nat} {T S : ByteArray} {b : Bool}
theorem Only1.onlyO (h : Only1 R W V) : OnlyO [R] W V := ⟨h.os, h.tape, h.output, h.size, fun i hi hn => h.block i hi (fun e => hn (by rw [e]; exact List.mem_singleton.2 rfl))⟩
theorem WrB.only (h : WrB w W m P T) (ho : Only1 R W V) (hR : m ≤ R) (hV : VarsAt V) : WrB w V m P T := by
  obtain ⟨O, h1, h2⟩ := h
  exact ⟨O, h1.beside ho.onlyO (fun i hi hm => by have h3 := (h2 i hi).2; rw [List.mem_singleton.1 hm] at h3; omega) hV, h2⟩
/-- What is held from the writing on: the Writer's text, the try, the variables; all that was there at w is as it was. -/
structure LwS (w : World) (m P g : Nat) (T : ByteArray) (t : TrP) (W : World) : Prop where
  wr : WrB w W m P T
  tb : W.heap[g]? = some (.cells (tryA t) 73 (0, 0))
  gl : g < w.heap.size
  ve : VarsAt W
  lo : Below w.heap.size w W
  sz : w.heap.size ≤ m ∧ m ≤ W.heap.size
theorem LwS.later {g : Nat} {t : TrP} (h : LwS w m P g T t W) (hb : Below W.heap.size W V) : LwS w m P g T t V := ⟨h.wr.below hb, later_at hb h.tb, h.gl, h.ve.later hb, below_step h.lo hb, h.sz.1, Nat.le_trans h.sz.2 hb.size⟩
theorem LwS.only {g : Nat} {t : TrP} (h : LwS w m P g T t W) (hr : RdAt W R S b) (ho : Only1 R W V) (hR : m ≤ R) : LwS w m P g T t V := by
  have hv := h.ve.rd hr ho
  refine ⟨h.wr.only ho hR hv, ho.at h.tb (by have := h.gl; have := h.sz.1; omega), h.gl, hv, ?_, h.sz.1, Nat.le_trans h.sz.2 ho.size⟩
  exact Only1.low h.lo ho (Nat.le_trans h.sz.1 hR)
end
end Go.Proofs.YtfjaibaidpbppaaGreatDoor
