/-
  What the document's value (package lockageref08) answers of a pair, and leaves in the line. Conditions: a word of a million bytes at most, at a place below a million. What a pair is, and what lies in memory while a line is gone over. Conditions: a word of a million bytes at most, at a place below a million. The program's parts, and the function that it hands back: what is asked of one that is gone over. Conditions: lengths.
-/
import Derived.Test.YtfjaibaidpbppaaGreatDoorLsAw
import Derived.BigQuiet
import Derived.Deep.QuietTactic
import Derived.Deep.RegionWith
import Derived.Test.YtfjaibaidpbppaaGreatDoorChain
import Derived.Test.YtfjaibaidpbppaaGreatDoorLsA
import Derived.Test.YtfjaibaidpbppaaGreatDoorRng
import Derived.Test.YtfjaibaidpbppaaGreatDoorShelf
import Derived.Shelf.RegionOpen
import Derived.Shelf.Abstract
import Derived.WalkKit
import Derived.OwnWalkIn
import Derived.TacticsInMore
import Derived.LoopNIn
import Derived.LoopIn
import Derived.IntWalk
namespace Go.Proofs.YtfjaibaidpbppaaGreatDoor
open Go.RowKit

theorem Only1.below {R : Nat} {w a b : World} (h : Only1 R w a) (k : Below a.heap.size a b) : Only1 R w b :=
  ⟨k.os.trans h.os, k.tape.trans h.tape, k.output.trans h.output, Nat.le_trans h.size k.size, fun i hi hn => (k.block i (Nat.lt_of_lt_of_le hi h.size)).trans (h.block i hi hn)⟩

/-- A line in memory. -/
def lnC (x : LnP) (av : Value) : Array Value := #[.string x.name, .slice none 0 0, .int .i64 x.retry, .int .i64 x.time, .int .i64 x.need, .int .i64 x.lv, .int .u16 x.st, av]
section
variable {w : World} {X : Nat} {x : LnP} {av : Value}
theorem namesGo_len (s : ByteArray) (p : Nat) : ∀ (f fr i : Nat) (out l : List Wd), namesGo s p f fr i out = .inl l → l.length ≤ out.length + f + 1
  | 0, fr, i, out, l, h => by
    rw [namesGo_end] at h
    split at h
    · injection h with h
      rw [← h]
      simp
    · cases h
  | f + 1, fr, i, out, l, h => by
    by_cases h44 : byL s i = 44
    · rw [namesGo_comma h44] at h
      split at h
      · have := namesGo_len s p f _ _ _ l h
        simp at this
        omega
      · cases h
    · rw [namesGo_on h44] at h
      have := namesGo_len s p f _ _ _ l h
      omega
def dupR (x : LnP) (l : List Wd) : Option Nat → FaP ⊕ LnP
  | some p => .inl ⟨7, p⟩
  | none => .inr { x with after := l }
theorem dupGo_step {l : List Wd} {f i : Nat} {a : Wd} (hi : l[i]? = some a) : dupGo l (f + 1) i = if memB a.t ((l.take i).map (·.t)) then some a.p else dupGo l f (i + 1) := by
  rw [dupGo, List.getD_eq_getElem?_getD, hi]
  rfl
theorem mem_take {l : List Wd} {i : Nat} {t : ByteArray} : t ∈ (l.take i).map (·.t) ↔ ∃ (k : Nat) (b : Wd), k < i ∧ l[k]? = some b ∧ b.t = t := by
  rw [List.mem_map]
  constructor
  · rintro ⟨b, hb, e⟩
    obtain ⟨k, hk, rfl⟩ := List.mem_iff_getElem.1 hb
    have hk2 := hk
    rw [List.length_take] at hk2
    exact ⟨k, _, by omega, by rw [List.getElem_take, List.getElem?_eq_getElem], e⟩
  · rintro ⟨k, b, hk, hb, e⟩
    refine ⟨b, List.mem_of_getElem? (i := k) ?_, e⟩
    rw [List.getElem?_take, if_pos hk]
    exact hb
end
end Go.Proofs.YtfjaibaidpbppaaGreatDoor

namespace Go.Proofs.YtfjaibaidpbppaaGreatDoor
open Go.RowKit

section
variable {w : World} {X : Nat} {x : LnP} {av : Value}
theorem val_word {word : ByteArray} {g : Bool} (h : memB word (wordsP g) = true) : word = sAfter ∨ word = sTime ∨ word = sTo ∨ word = sNeed ∨ word = sRetry := by
  have h2 := memB_iff.1 h
  cases g
  · simp only [wordsP, Bool.false_eq_true, if_false, List.mem_cons, List.not_mem_nil, or_false] at h2
    rcases h2 with h2 | h2 | h2
    · exact .inl h2
    · exact .inr (.inl h2)
    · exact .inr (.inr (.inr (.inr h2)))
  · simp only [wordsP, if_true, List.mem_cons, List.not_mem_nil, or_false] at h2
    rcases h2 with h2 | h2 | h2 | h2
    · exact .inl h2
    · exact .inr (.inl h2)
    · exact .inr (.inr (.inl h2))
    · exact .inr (.inr (.inr (.inl h2)))
end

/-- A line as a value. -/
def lnV (x : LnP) (av : Value) : Value := .agg (lnC x av)
/-- Eight cells are set. -/
def set8 (W : World) (B : Nat) (y : LnP) (au : Value) : World := (((((((W.setCell ⟨B, 0, none⟩ (.string y.name)).setCell ⟨B, 1, none⟩ (.slice none 0 0)).setCell ⟨B, 2, none⟩ (.int .i64 y.retry)).setCell ⟨B, 3, none⟩ (.int .i64 y.time)).setCell ⟨B, 4, none⟩ (.int .i64 y.need)).setCell ⟨B, 5, none⟩ (.int .i64 y.lv)).setCell ⟨B, 6, none⟩ (.int .u16 y.st)).setCell ⟨B, 7, none⟩ au
theorem lnC_size (x : LnP) (av : Value) : (lnC x av).size = 8 := rfl
section
variable {w W : World} {B : Nat} {x y : LnP} {av au : Value} {t : TypeId} {m : Nat × Nat}
theorem set8_row (h : W.heap[B]? = some (.cells (lnC x av) t m)) : (set8 W B y au).heap[B]? = some (.cells (lnC y au) t m) := by
  have h0 := row_set (i := 0) (v := .string y.name) h
  have h1 := row_set (i := 1) (v := .slice none 0 0) h0
  have h2 := row_set (i := 2) (v := .int .i64 y.retry) h1
  have h3 := row_set (i := 3) (v := .int .i64 y.time) h2
  have h4 := row_set (i := 4) (v := .int .i64 y.need) h3
  have h5 := row_set (i := 5) (v := .int .i64 y.lv) h4
  have h6 := row_set (i := 6) (v := .int .u16 y.st) h5
  have h7 := row_set (i := 7) (v := au) h6
  exact h7.trans (by simp [lnC])
theorem set8_below (h : Below w.heap.size w W) (y : LnP) (au : Value) : Below w.heap.size w (set8 W w.heap.size y au) := by
  have h0 := h.setCell (p := ⟨w.heap.size, 0, none⟩) (Nat.le_refl _) (.string y.name)
  have h1 := h0.setCell (p := ⟨w.heap.size, 1, none⟩) (Nat.le_refl _) (.slice none 0 0)
  have h2 := h1.setCell (p := ⟨w.heap.size, 2, none⟩) (Nat.le_refl _) (.int .i64 y.retry)
  have h3 := h2.setCell (p := ⟨w.heap.size, 3, none⟩) (Nat.le_refl _) (.int .i64 y.time)
  have h4 := h3.setCell (p := ⟨w.heap.size, 4, none⟩) (Nat.le_refl _) (.int .i64 y.need)
  have h5 := h4.setCell (p := ⟨w.heap.size, 5, none⟩) (Nat.le_refl _) (.int .i64 y.lv)
  have h6 := h5.setCell (p := ⟨w.heap.size, 6, none⟩) (Nat.le_refl _) (.int .u16 y.st)
  exact h6.setCell (p := ⟨w.heap.size, 7, none⟩) (Nat.le_refl _) au
theorem set8_other {g : Nat} (hg : g ≠ B) : (set8 W B y au).heap[g]? = W.heap[g]? := by
  have o : ∀ (V : World) (i : Nat) (v : Value), (V.setCell ⟨B, i, none⟩ v).heap[g]? = V.heap[g]? := fun V i v => Below.heap_setCell V ⟨B, i, none⟩ v g (by simpa using hg)
  unfold set8
  rw [o, o, o, o, o, o, o, o]
end
theorem results_cell3 {P : Program} {fn : Func} {p u v : Tmp} {ty : TypeId} (h : fn.results = #[.cell p ty, .tmp u, .tmp v]) (tmps : Array Value) (w : World) (g : Nat) (t : TypeId) (cs : Array Value) (fr : Nat × Nat) (d : TypeDesc)
    (hp : tmps.getD p undef = .pointer (some ⟨g, 0, none⟩)) (hg : w.heap[g]? = some (.cells cs t fr))
    (hu : P.underlying ty = some d) (hd : (match d with | .struct _ | .array _ _ => true | _ => false) = true) (hi : (P.info? ty).map (·.size) = some cs.size) :
    (results fn tmps).run P w = .ok (.tuple #[.agg cs, tmps.getD u undef, tmps.getD v undef]) w := by
  have hp' : tmps[p]?.getD undef = .pointer (some ⟨g, 0, none⟩) := by simpa using hp
  simp [results, h, hp', asAddr, run_loadVar_row w g t ty cs fr d hg hu hd hi]
theorem info_str3 : (Tryz.prog.info? 9).map (fun i => (i.zero, i.size, i.bytes)) = some (some (.string ⟨#[]⟩), 1, 16) := by kernel_rfl
theorem ba_list {s t : ByteArray} {l : List UInt8} (h : t.data.toList = l) : (s.toList == l) = decide (s = t) := by
  rw [← h, ← Go.ByteArray.toList_eq t]
  exact ba_same
theorem drew_row {w : World} {g : Nat} {o : Obj} (h : w.heap[g]? = some o) : w.drew.heap[g]? = some o := h
/-- Behind all pairs. -/
def endP (g : Bool) (p : Nat) : FaP ⊕ (LnP × List ByteArray) → FaP ⊕ LnP
  | .inl e => .inl e
  | .inr (x, seen) => if g = true ∧ (memB sTo seen = false ∨ memB sNeed seen = false) then .inl ⟨3, p⟩ else .inr x
theorem line_pairs {l : List Wd} {names : List ByteArray} {a b : Wd} (ha : l[0]? = some a) (hb : l[1]? = some b) (h8 : ¬ names.length = 8) (ht : ¬ (a.t ≠ sTask ∧ a.t ≠ sGate)) (hn : nameP b.t = true) (hm : memB b.t names = false) :
    lineP l names = endP (decide (a.t = sGate)) a.p (pairsP (decide (a.t = sGate)) [] (ln0 b.t) (l.drop 2)) := by
  have hga : l.getD 0 default = a := by rw [List.getD_eq_getElem?_getD, ha]; rfl
  have hgb : l.getD 1 default = b := by rw [List.getD_eq_getElem?_getD, hb]; rfl
  have hl : ¬ l.length < 2 := by
    have := (List.getElem?_eq_some_iff.1 hb).1
    omega
  unfold lineP
  rw [hga, hgb]
  dsimp only
  rw [if_neg h8, if_neg ht, if_neg hl, if_neg (by rw [hn]; decide), if_neg (by rw [hm]; decide)]
  unfold endP
  cases pairsP (decide (a.t = sGate)) [] (ln0 b.t) (l.drop 2) with
  | inl e => rfl
  | inr y => simp only [decide_eq_true_eq]
theorem line_err1 {l : List Wd} {names : List ByteArray} {a : Wd} (ha : l[0]? = some a) (h8 : ¬ names.length = 8) (ht : a.t ≠ sTask ∧ a.t ≠ sGate) : lineP l names = .inl ⟨17, a.p⟩ := by
  have hga : l.getD 0 default = a := by rw [List.getD_eq_getElem?_getD, ha]; rfl
  unfold lineP
  rw [hga]
  dsimp only
  rw [if_neg h8, if_pos ht]
theorem line_err2 {l : List Wd} {names : List ByteArray} {a : Wd} (ha : l[0]? = some a) (h8 : ¬ names.length = 8) (ht : ¬ (a.t ≠ sTask ∧ a.t ≠ sGate)) (hl : l.length < 2) : lineP l names = .inl ⟨3, a.p⟩ := by
  have hga : l.getD 0 default = a := by rw [List.getD_eq_getElem?_getD, ha]; rfl
  unfold lineP
  rw [hga]
  dsimp only
  rw [if_neg h8, if_neg ht, if_pos hl]
theorem line_err3 {l : List Wd} {names : List ByteArray} {a b : Wd} (ha : l[0]? = some a) (hb : l[1]? = some b) (h8 : ¬ names.length = 8) (ht : ¬ (a.t ≠ sTask ∧ a.t ≠ sGate)) (hn : nameP b.t = false) : lineP l names = .inl ⟨15, b.p⟩ := by
  have hga : l.getD 0 default = a := by rw [List.getD_eq_getElem?_getD, ha]; rfl
  have hgb : l.getD 1 default = b := by rw [List.getD_eq_getElem?_getD, hb]; rfl
  have hl : ¬ l.length < 2 := by
    have := (List.getElem?_eq_some_iff.1 hb).1
    omega
  unfold lineP
  rw [hga, hgb]
  dsimp only
  rw [if_neg h8, if_neg ht, if_neg hl, if_pos hn]
theorem line_err4 {l : List Wd} {names : List ByteArray} {a b : Wd} (ha : l[0]? = some a) (hb : l[1]? = some b) (h8 : ¬ names.length = 8) (ht : ¬ (a.t ≠ sTask ∧ a.t ≠ sGate)) (hn : nameP b.t = true) (hm : memB b.t names = true) : lineP l names = .inl ⟨7, b.p⟩ := by
  have hga : l.getD 0 default = a := by rw [List.getD_eq_getElem?_getD, ha]; rfl
  have hgb : l.getD 1 default = b := by rw [List.getD_eq_getElem?_getD, hb]; rfl
  have hl : ¬ l.length < 2 := by
    have := (List.getElem?_eq_some_iff.1 hb).1
    omega
  unfold lineP
  rw [hga, hgb]
  dsimp only
  rw [if_neg h8, if_neg ht, if_neg hl, if_neg (by rw [hn]; decide), if_pos hm]

theorem pairs_17 {g : Bool} {seen : List ByteArray} {x : LnP} {y : Wd} (hm : memB y.t (wordsP g) = false) : ∀ rest, pairsP g seen x (y :: rest) = .inl ⟨17, y.p⟩
  | [] => by rw [pairsP, if_pos hm]
  | b :: r => by rw [pairsP, if_pos hm]
theorem pairs_7 {g : Bool} {seen : List ByteArray} {x : LnP} {y : Wd} (hm : memB y.t (wordsP g) = true) (hs : memB y.t seen = true) : ∀ rest, pairsP g seen x (y :: rest) = .inl ⟨7, y.p⟩
  | [] => by rw [pairsP, if_neg (by rw [hm]; decide), if_pos hs]
  | b :: r => by rw [pairsP, if_neg (by rw [hm]; decide), if_pos hs]
theorem pairs_3 {g : Bool} {seen : List ByteArray} {x : LnP} {y : Wd} (hm : memB y.t (wordsP g) = true) (hs : memB y.t seen = false) : pairsP g seen x [y] = .inl ⟨3, y.p⟩ := by
  rw [pairsP, if_neg (by rw [hm]; decide), if_neg (by rw [hs]; decide)]
theorem pairs_bad {g : Bool} {seen : List ByteArray} {x : LnP} {y z : Wd} {r : List Wd} {f : FaP} (hm : memB y.t (wordsP g) = true) (hs : memB y.t seen = false) (hv : valueP x y.t z = .inl f) : pairsP g seen x (y :: z :: r) = .inl f := by
  rw [pairsP, if_neg (by rw [hm]; decide), if_neg (by rw [hs]; decide), hv]
theorem pairs_good {g : Bool} {seen : List ByteArray} {x x' : LnP} {y z : Wd} {r : List Wd} (hm : memB y.t (wordsP g) = true) (hs : memB y.t seen = false) (hv : valueP x y.t z = .inr x') : pairsP g seen x (y :: z :: r) = pairsP g (seen ++ [y.t]) x' r := by
  rw [pairsP, if_neg (by rw [hm]; decide), if_neg (by rw [hs]; decide), hv]
theorem drop_at {l : List Wd} {k : Nat} {y : Wd} (h : l[k]? = some y) : l.drop k = y :: l.drop (k + 1) := by
  obtain ⟨hk, rfl⟩ := List.getElem?_eq_some_iff.1 h
  exact List.drop_eq_getElem_cons hk
theorem value_err {x : LnP} {word : ByteArray} {w : Wd} {f : FaP} (h : valueP x word w = .inl f) : (f.e : Int) ≠ 0 := by
  unfold valueP at h
  split at h
  · split at h
    · injection h with h
      rw [← h]
      simp
    · split at h
      · injection h with h
        rw [← h]
        simp
      · cases h
  · split at h
    · split at h
      · injection h with h
        rw [← h]
        simp
      · cases h
    · split at h
      · split at h
        · injection h with h
          rw [← h]
          simp
        · cases h
      · split at h
        · split at h
          · injection h with h
            rw [← h]
            simp
          · cases h
        · split at h
          · split at h
            · injection h with h
              rw [← h]
              simp
            · cases h
          · cases h
theorem own_texts {W : World} {b m : Nat} {v : Value} {L : List ByteArray} (h : W.ownsRow b 9 1 v m (L.map Value.string)) : ∃ A c, v = .slice A m c ∧ TextsAt W A L := by
  have hl := h.1
  simp at hl
  rcases h.2 with ⟨rfl, e⟩ | ⟨g, cap, cur, rfl, hb, hq, _, _, _, ht⟩
  · exact ⟨none, 0, by rw [e], fun h0 => absurd h0 (by omega)⟩
  · refine ⟨_, cap, rfl, fun _ => ⟨_, rfl, fun i s hs => ?_⟩⟩
    have hadd : (⟨g, 0, none⟩ : Addr).add i = ⟨g, i, none⟩ := by unfold Addr.add; split <;> simp_all
    have h1 : (cur.toList.take (m * 1))[i]? = some (Value.string s) := by rw [ht, List.getElem?_map, hs]; rfl
    rw [hadd]
    rw [List.getElem?_take] at h1
    split at h1
    · simp only [World.cell?, hq]
      simpa using h1
    · exact absurd h1 (by simp)
theorem tag_ne {w : World} {g : Nat} {c1 c2 : Array Value} {t1 t2 : TypeId} {m1 m2 : Nat × Nat} (h1 : w.heap[g]? = some (.cells c1 t1 m1)) (h2 : w.heap[g]? = some (.cells c2 t2 m2)) : t1 = t2 := by
  rw [h1] at h2
  injection h2 with h2
  injection h2 with _ h2
end Go.Proofs.YtfjaibaidpbppaaGreatDoor

namespace Go.Proofs.YtfjaibaidpbppaaGreatDoor
open Go.RowKit Go.Shelf

attribute [local go_sem] Oper.semAt_some

/-- A word, as a value. -/
abbrev wdV (t : ByteArray) (p : Int) : Value := .agg #[.string t, .int .i64 p]
def encW (ps : List Wd) (k : Nat) : Array Value := #[wdV (ps.getD k ⟨.empty, 0⟩).t (ps.getD k ⟨.empty, 0⟩).p]
/-- How much of a variable's text is left. -/
def leftAt (w : World) (B : Nat) : Nat := match w.cell? ⟨B, 0, none⟩ with
  | some (.string t) => t.size
  | _ => 0
theorem leftAt_is {w : World} {B : Nat} {t : ByteArray} {v : Value} {T : TypeId} (h : w.heap[B]? = some (.cells #[.string t, v] T (0, 0))) : leftAt w B = t.size := by
  unfold leftAt
  rw [cellH h 0]
  rfl
def ownB (B : Nat) (b : Nat) : Prop := b = B ∨ b = B + 1

/-- The variable has a new word. -/
theorem box_new {W : World} {B : Nat} {x y z v v1 u u1 : Value} {T T2 : TypeId} (h : W.heap[B]? = some (.cells #[x, y] T (0, 0))) (h2 : W.heap[B + 1]? = some (.cells #[z] T2 (0, 0))) :
    ((((W.setCell ⟨B, 0, none⟩ v).setCell ⟨B, 1, none⟩ v1).setCell ⟨B, 0, none⟩ u).setCell ⟨B, 1, none⟩ u1).drew.heap[B]? = some (.cells #[u, u1] T (0, 0)) ∧
    ((((W.setCell ⟨B, 0, none⟩ v).setCell ⟨B, 1, none⟩ v1).setCell ⟨B, 0, none⟩ u).setCell ⟨B, 1, none⟩ u1).drew.heap[B + 1]? = some (.cells #[z] T2 (0, 0)) ∧
    Apart (ownB B) W ((((W.setCell ⟨B, 0, none⟩ v).setCell ⟨B, 1, none⟩ v1).setCell ⟨B, 0, none⟩ u).setCell ⟨B, 1, none⟩ u1).drew := by
  have o : ∀ (V : World) (i : Nat) (x : Value), (V.setCell ⟨B, i, none⟩ x).heap[B + 1]? = V.heap[B + 1]? := fun V i x => Below.heap_setCell V ⟨B, i, none⟩ x (B + 1) (by show B + 1 ≠ B; omega)
  have a : ∀ (V : World) (i : Nat) (x : Value), Apart (ownB B) V (V.setCell ⟨B, i, none⟩ x) := fun V i x => Apart.set (.inl rfl)
  refine ⟨?_, ?_, ((((a _ _ _).trans (a _ _ _)).trans (a _ _ _)).trans (a _ _ _)).trans Apart.drew⟩
  · exact (row_set (row_set (row_set (row_set h)))).trans (by simp)
  · show ((((W.setCell ⟨B, 0, none⟩ v).setCell ⟨B, 1, none⟩ v1).setCell ⟨B, 0, none⟩ u).setCell ⟨B, 1, none⟩ u1).heap[B + 1]? = _
    rw [o, o, o, o]
    exact h2

section
variable {w : World} {s : ByteArray} {p B : Nat} {c : UInt8}
end
end Go.Proofs.YtfjaibaidpbppaaGreatDoor
