/-
  Lines of words in memory, and rows of the call's own that grow to them. No program is named here.
-/
import Derived.Test.YtcddbpdebklhnaaGreatDoorLexQ
import Derived.Test.YtcddbpdebklhnaaGreatDoorPhaseB
import Derived.Laws.AppendOwn
import Derived.WalkKit
import Derived.Below
import Derived.Lib.Hide
namespace Go.Proofs.YtcddbpdebklhnaaGreatDoor
open Go.RowKit

def wdC (x : Wd) : List Value := [.string x.t, .int .i64 x.p]
def wdCells (l : List Wd) : List Value := l.flatMap wdC
theorem wdCells_len (l : List Wd) : (wdCells l).length = l.length * 2 := by
  induction l with
  | nil => rfl
  | cons x l ih => simp only [wdCells, List.flatMap_cons, List.length_append, List.length_cons] at ih ⊢; rw [ih]; simp [wdC]; omega
theorem wdCells_add (l m : List Wd) : wdCells (l ++ m) = wdCells l ++ wdCells m := by simp [wdCells]
theorem wdCells_one (x : Wd) : wdCells [x] = wdC x := by simp [wdCells]
theorem wdCells_at : ∀ (l : List Wd) (i : Nat) (x : Wd), l[i]? = some x → (wdCells l)[i * 2]? = some (.string x.t) ∧ (wdCells l)[i * 2 + 1]? = some (.int .i64 x.p)
  | [], i, x, h => by simp at h
  | y :: l, 0, x, h => by
    obtain rfl : y = x := by simpa using h
    simp [wdCells, wdC]
  | y :: l, i + 1, x, h => by
    have h' : l[i]? = some x := by simpa using h
    have := wdCells_at l i x h'
    rw [show (i + 1) * 2 = i * 2 + 2 by omega]
    simpa [wdCells, wdC, List.flatMap_cons] using this

/-- The words l stand at A. -/
def WdsAt (w : World) (A : Option Addr) (l : List Wd) : Prop :=
  0 < l.length → ∃ ad, A = some ad ∧ ∀ i x, l[i]? = some x → w.cell? (ad.add (i * 2)) = some (.string x.t) ∧ w.cell? ⟨(ad.add (i * 2)).block, (ad.add (i * 2)).off + 1, none⟩ = some (.int .i64 x.p)
/-- The lines L stand at A. -/
def LnsAt (w : World) (A : Option Addr) (L : List (List Wd)) : Prop :=
  0 < L.length → ∃ ad, A = some ad ∧ ∀ i l, L[i]? = some l → ∃ B c, w.cell? (ad.add i) = some (.slice B l.length c) ∧ WdsAt w B l ∧ l.length ≤ c
section
variable {w w' : World} {A : Option Addr} {l : List Wd} {L : List (List Wd)}
theorem WdsAt.later (h : WdsAt w A l) (hb : Below w.heap.size w w') : WdsAt w' A l := fun hn => by
  obtain ⟨ad, e, hc⟩ := h hn
  exact ⟨ad, e, fun i x hi => ⟨cell_later hb (hc i x hi).1, cell_later hb (hc i x hi).2⟩⟩
theorem LnsAt.later (h : LnsAt w A L) (hb : Below w.heap.size w w') : LnsAt w' A L := fun hn => by
  obtain ⟨ad, e, hc⟩ := h hn
  refine ⟨ad, e, fun i x hi => ?_⟩
  obtain ⟨B, c, h1, h2, h3⟩ := hc i x hi
  exact ⟨B, c, cell_later hb h1, h2.later hb, h3⟩
theorem WdsAt.at_ {w : World} {A : Option Addr} {l : List Wd} (h : WdsAt w A l) {i : Nat} {x : Wd} (hi : l[i]? = some x) :
    ∃ ad, A = some ad ∧ w.cell? (ad.add (i * 2)) = some (.string x.t) ∧ w.cell? ⟨(ad.add (i * 2)).block, (ad.add (i * 2)).off + 1, none⟩ = some (.int .i64 x.p) := by
  obtain ⟨ad, e, hc⟩ := h (by have := (List.getElem?_eq_some_iff.1 hi).1; omega)
  exact ⟨ad, e, hc i x hi⟩
theorem LnsAt.at_ {w : World} {A : Option Addr} {L : List (List Wd)} (h : LnsAt w A L) {i : Nat} {l : List Wd} (hi : L[i]? = some l) :
    ∃ ad B c, A = some ad ∧ w.cell? (ad.add i) = some (.slice B l.length c) ∧ WdsAt w B l := by
  obtain ⟨ad, e, hc⟩ := h (by have := (List.getElem?_eq_some_iff.1 hi).1; omega)
  obtain ⟨B, c, h1, h2, _⟩ := hc i l hi
  exact ⟨ad, B, c, e, h1, h2⟩
theorem LnsAt.cap {w : World} {A : Option Addr} {L : List (List Wd)} (h : LnsAt w A L) {i : Nat} {l : List Wd} (hi : L[i]? = some l) :
    ∃ ad B c, A = some ad ∧ w.cell? (ad.add i) = some (.slice B l.length c) ∧ WdsAt w B l ∧ l.length ≤ c := by
  obtain ⟨ad, e, hc⟩ := h (by have := (List.getElem?_eq_some_iff.1 hi).1; omega)
  obtain ⟨B, c, h1, h2, h3⟩ := hc i l hi
  exact ⟨ad, B, c, e, h1, h2, h3⟩
/-- The lines L stand at A, all in blocks from lo on. -/
def LnsNew (lo : Nat) (w : World) (A : Option Addr) (L : List (List Wd)) : Prop :=
  0 < L.length → ∃ ad, A = some ad ∧ lo ≤ ad.block ∧ ∀ i l, L[i]? = some l → ∃ B c, w.cell? (ad.add i) = some (.slice B l.length c) ∧ WdsAt w B l ∧ (∀ bd, B = some bd → lo ≤ bd.block) ∧ l.length ≤ c
theorem LnsNew.lns {lo : Nat} {w : World} {A : Option Addr} {L : List (List Wd)} (h : LnsNew lo w A L) : LnsAt w A L := fun hn => by
  obtain ⟨ad, e, _, hc⟩ := h hn
  refine ⟨ad, e, fun i l hi => ?_⟩
  obtain ⟨B, c, h1, h2, _, h4⟩ := hc i l hi
  exact ⟨B, c, h1, h2, h4⟩
theorem LnsNew.wide {lo lo' : Nat} {w : World} {A : Option Addr} {L : List (List Wd)} (h : LnsNew lo w A L) (hl : lo' ≤ lo) : LnsNew lo' w A L := fun hn => by
  obtain ⟨ad, e, h0, hc⟩ := h hn
  refine ⟨ad, e, Nat.le_trans hl h0, fun i l hi => ?_⟩
  obtain ⟨B, c, h1, h2, h3, h4⟩ := hc i l hi
  exact ⟨B, c, h1, h2, fun bd e => Nat.le_trans hl (h3 bd e), h4⟩
theorem LnsNew.later {lo : Nat} {w w' : World} {A : Option Addr} {L : List (List Wd)} (h : LnsNew lo w A L) (hb : Below w.heap.size w w') : LnsNew lo w' A L := fun hn => by
  obtain ⟨ad, e, h0, hc⟩ := h hn
  refine ⟨ad, e, h0, fun i l hi => ?_⟩
  obtain ⟨B, c, h1, h2, h3, h4⟩ := hc i l hi
  exact ⟨B, c, cell_later hb h1, h2.later hb, h3, h4⟩
theorem LnsNew.at_ {lo : Nat} {w : World} {A : Option Addr} {L : List (List Wd)} (h : LnsNew lo w A L) {i : Nat} {l : List Wd} (hi : L[i]? = some l) :
    ∃ ad B c, A = some ad ∧ lo ≤ ad.block ∧ w.cell? (ad.add i) = some (.slice B l.length c) ∧ WdsAt w B l ∧ ∀ bd, B = some bd → lo ≤ bd.block := by
  obtain ⟨ad, e, h0, hc⟩ := h (by have := (List.getElem?_eq_some_iff.1 hi).1; omega)
  obtain ⟨B, c, h1, h2, h3, _⟩ := hc i l hi
  exact ⟨ad, B, c, e, h0, h1, h2, h3⟩
theorem wds_of {g : Nat} {cur : Array Value} {t : TypeId} {m : Nat × Nat} (h : w.heap[g]? = some (.cells cur t m)) (ht : cur.toList.take (l.length * 2) = wdCells l) : WdsAt w (some ⟨g, 0, none⟩) l := fun _ => by
  have hc : ∀ j u, (wdCells l)[j]? = some u → w.cell? ⟨g, j, none⟩ = some u := fun j u hu => by
    rw [← ht, List.getElem?_take] at hu
    split at hu
    · simp only [World.cell?, h]
      simpa using hu
    · exact absurd hu (by simp)
  have hadd : ∀ k, (⟨g, 0, none⟩ : Addr).add k = ⟨g, k, none⟩ := fun k => by unfold Addr.add; split <;> simp_all
  refine ⟨_, rfl, fun i x hi => ?_⟩
  rw [hadd]
  exact ⟨hc _ _ (wdCells_at l i x hi).1, hc _ _ (wdCells_at l i x hi).2⟩
end

/-- The line that is made, and the lines that are done, in rows of the call's own: the line's row is of blocks from lb on, a done line's ahead of it. -/
structure LRows (tW tS : TypeId) (b lb : Nat) (line : List Wd) (out : List (List Wd)) (vl vo : Value) (vs : List Value) (W : World) : Prop where
  rl : W.ownsRow lb tW 2 vl line.length (wdCells line)
  ro : W.ownsRow b tS 1 vo out.length vs
  rd : ∀ (j : Nat) (l : List Wd), out[j]? = some l → ∃ g c cur, vs[j]? = some (.slice (some ⟨g, 0, none⟩) l.length c) ∧ b ≤ g ∧ g < lb ∧ W.heap[g]? = some (.cells cur tW (0, 0)) ∧ cur.toList.take (l.length * 2) = wdCells l ∧ l.length ≤ c
  rb : b ≤ lb ∧ lb ≤ W.heap.size
section
variable {tW tS : TypeId} {b lb : Nat} {line : List Wd} {out : List (List Wd)} {vl vo vl' vo' : Value} {vs : List Value} {W W' : World}
theorem own_agree {base : Nat} {e : TypeId} {size n : Nat} {v : Value} {xs : List Value} {W W' : World} (h : W.ownsRow base e size v n xs) (ha : ∀ q, base ≤ q → q < W.heap.size → W'.heap[q]? = W.heap[q]?) : W'.ownsRow base e size v n xs := by
  obtain ⟨hl, h⟩ := h
  refine ⟨hl, h.imp id ?_⟩
  rintro ⟨q, cap, cur, rfl, hb, hq, h1⟩
  exact ⟨q, cap, cur, rfl, hb, (ha q hb (Array.getElem?_eq_some_iff.1 hq).1).trans hq, h1⟩
theorem own_frame {base : Nat} {e : TypeId} {size n : Nat} {v : Value} {xs : List Value} {W W' : World} (h : W.ownsRow base e size v n xs) (ha : ∀ q cur, base ≤ q → W.heap[q]? = some (.cells cur e (0, 0)) → W'.heap[q]? = W.heap[q]?) : W'.ownsRow base e size v n xs := by
  obtain ⟨hl, h⟩ := h
  refine ⟨hl, h.imp id ?_⟩
  rintro ⟨q, cap, cur, rfl, hb, hq, h1⟩
  exact ⟨q, cap, cur, rfl, hb, (ha q cur hb hq).trans hq, h1⟩
theorem own_tag {base : Nat} {e : TypeId} {size n : Nat} {v : Value} {xs : List Value} {W : World} (h : W.ownsRow base e size v n xs) {g : Nat} (hg : v.ownBlock = some g) : base ≤ g ∧ ∃ cur, W.heap[g]? = some (.cells cur e (0, 0)) := by
  rcases h.2 with ⟨rfl, _⟩ | ⟨q, cap, cur, rfl, hb, hq, _⟩
  · simp [Value.ownBlock] at hg
  · obtain rfl : q = g := by simpa [Value.ownBlock] using hg
    exact ⟨hb, cur, hq⟩
theorem LRows.nil (tW tS : TypeId) (b : Nat) (W : World) (hb : b ≤ W.heap.size) : LRows tW tS b b [] [] (.slice none 0 0) (.slice none 0 0) [] W :=
  ⟨World.ownsRow_nil _ _ _ _, World.ownsRow_nil _ _ _ _, fun j l h => by simp at h, Nat.le_refl _, hb⟩
/-- What was there stays, from block b on. -/
theorem LRows.agree (h : LRows tW tS b lb line out vl vo vs W) (hs : W.heap.size ≤ W'.heap.size) (ha : ∀ q, b ≤ q → q < W.heap.size → W'.heap[q]? = W.heap[q]?) : LRows tW tS b lb line out vl vo vs W' := by
  have hlb := h.rb
  refine ⟨own_agree h.rl (fun q hq => ha q (by omega)), own_agree h.ro ha, fun j l hl => ?_, hlb.1, by omega⟩
  obtain ⟨g, c, cur, h1, h2, h3, h4, h5⟩ := h.rd j l hl
  exact ⟨g, c, cur, h1, h2, h3, (ha g h2 (by omega)).trans h4, h5⟩
theorem LRows.later (h : LRows tW tS b lb line out vl vo vs W) (hb : Below W.heap.size W W') : LRows tW tS b lb line out vl vo vs W' := h.agree hb.size (fun q _ hq => hb.block q hq)
/-- A store ahead of block b. -/
theorem LRows.set (h : LRows tW tS b lb line out vl vo vs W) {B i : Nat} (hB : B < b) (v : Value) : LRows tW tS b lb line out vl vo vs (W.setCell ⟨B, i, none⟩ v) :=
  h.agree (by simp) (fun q hq _ => Below.heap_setCell W ⟨B, i, none⟩ v q (by show q ≠ B; omega))
/-- The line has a word more. -/
theorem LRows.more (h : LRows tW tS b lb line out vl vo vs W) (hT : tW ≠ tS) (x : Wd) (hg : W.grownBy W' vl.ownBlock) (ho : W'.ownsRow lb tW 2 vl' (line.length + 1) (wdCells line ++ wdC x)) : LRows tW tS b lb (line ++ [x]) out vl' vo vs W' := by
  have hlb := h.rb
  refine ⟨by rw [wdCells_add, wdCells_one, List.length_append]; exact ho, own_frame h.ro (fun q cur _ hq => hg.block q (Array.getElem?_eq_some_iff.1 hq).1 (fun e => ?_)), fun j l hl => ?_, hlb.1, Nat.le_trans hlb.2 hg.size⟩
  · obtain ⟨_, cur', h2⟩ := own_tag h.rl e.symm
    rw [hq] at h2
    injection h2 with h2
    injection h2 with _ h3
    exact hT h3.symm
  · obtain ⟨g, c, cur, h1, h2, h3, h4, h5⟩ := h.rd j l hl
    refine ⟨g, c, cur, h1, h2, h3, (hg.block g (by omega) (fun e => ?_)).trans h4, h5⟩
    have := (own_tag h.rl e.symm).1
    omega
/-- The line is done; the next one has no row yet. -/
theorem LRows.next (h : LRows tW tS b lb line out vl vo vs W) (hT : tW ≠ tS) (hn : line ≠ []) (hg : W.grownBy W' vo.ownBlock) (ho : W'.ownsRow b tS 1 vo' (out.length + 1) (vs ++ [vl])) : LRows tW tS b W'.heap.size [] (out ++ [line]) (.slice none 0 0) vo' (vs ++ [vl]) W' := by
  have hlb := h.rb
  have hvs : vs.length = out.length := by have := h.ro.1; omega
  have keep : ∀ (g : Nat) (cur : Array Value), W.heap[g]? = some (.cells cur tW (0, 0)) → W'.heap[g]? = some (.cells cur tW (0, 0)) := fun g cur hc => by
    refine (hg.block g (Array.getElem?_eq_some_iff.1 hc).1 (fun e => ?_)).trans hc
    obtain ⟨_, cur', h2⟩ := own_tag h.ro e.symm
    rw [hc] at h2
    injection h2 with h2
    injection h2 with _ h3
    exact hT h3
  refine ⟨World.ownsRow_nil _ _ _ _, by rw [List.length_append]; exact ho, fun j l hl => ?_, by have := hg.size; omega, Nat.le_refl _⟩
  by_cases hj : j < out.length
  · rw [List.getElem?_append_left hj] at hl
    obtain ⟨g, c, cur, h1, h2, h3, h4, h5⟩ := h.rd j l hl
    exact ⟨g, c, cur, by rw [List.getElem?_append_left (by omega)]; exact h1, h2, by have := hg.size; omega, keep g cur h4, h5⟩
  · have hj2 : j = out.length := by
      have := (List.getElem?_eq_some_iff.1 hl).1
      simp at this
      omega
    subst hj2
    obtain rfl : line = l := by simpa using hl
    rcases h.rl.2 with ⟨_, e⟩ | ⟨g, cap, cur, e, hb, hq, hcp, _, _, ht⟩
    · exact absurd (List.eq_nil_of_length_eq_zero e) hn
    · have := (Array.getElem?_eq_some_iff.1 hq).1
      exact ⟨g, cap, cur, by rw [← hvs]; simp [e], by omega, by have := hg.size; omega, keep g cur hq, ht, hcp⟩
theorem LRows.aheadL (h : LRows tW tS b lb line out vl vo vs W) (hg : W.grownBy W' vl.ownBlock) {q : Nat} (hq : q < b) : W'.heap[q]? = W.heap[q]? := by
  have hlb := h.rb
  refine hg.block q (by omega) (fun e => ?_)
  have := (own_tag h.rl e.symm).1
  omega
theorem LRows.aheadO (h : LRows tW tS b lb line out vl vo vs W) (hg : W.grownBy W' vo.ownBlock) {q : Nat} (hq : q < b) : W'.heap[q]? = W.heap[q]? := by
  have hlb := h.rb
  refine hg.block q (by omega) (fun e => ?_)
  have := (own_tag h.ro e.symm).1
  omega
theorem LRows.belowL {w : World} (h : LRows tW tS b lb line out vl vo vs W) (hb : Below w.heap.size w W) (hg : W.grownBy W' vl.ownBlock) (hq : w.heap.size ≤ b) (hs : w.heap.size ≤ W.heap.size) : Below w.heap.size w W' := by
  have hlb := h.rb
  exact hb.grown hg hs (fun g e => by have := (own_tag h.rl e).1; omega)
theorem LRows.belowO {w : World} (h : LRows tW tS b lb line out vl vo vs W) (hb : Below w.heap.size w W) (hg : W.grownBy W' vo.ownBlock) (hq : w.heap.size ≤ b) (hs : w.heap.size ≤ W.heap.size) : Below w.heap.size w W' := by
  exact hb.grown hg hs (fun g e => by have := (own_tag h.ro e).1; omega)
theorem LRows.lns (h : LRows tW tS b lb line out vl vo vs W) : ∃ A c, vo = .slice A out.length c ∧ LnsNew b W A out ∧ out.length ≤ c := by
  have hvs : vs.length = out.length := by have := h.ro.1; omega
  rcases h.ro.2 with ⟨rfl, e⟩ | ⟨g, cap, cur, rfl, hb, hq, hcp, _, _, ht⟩
  · exact ⟨none, 0, by rw [e], fun h => absurd h (by omega), by omega⟩
  · refine ⟨_, cap, rfl, fun _ => ⟨_, rfl, hb, fun i l hl => ?_⟩, hcp⟩
    obtain ⟨q, c, cur2, h1, h0, _, h4, h5, h6⟩ := h.rd i l hl
    refine ⟨_, c, ?_, wds_of h4 h5, fun bd e => by injection e with e; rw [← e]; exact h0, h6⟩
    have hadd : (⟨g, 0, none⟩ : Addr).add i = ⟨g, i, none⟩ := by unfold Addr.add; split <;> simp_all
    rw [hadd]
    rw [← ht, List.getElem?_take] at h1
    split at h1
    · simp only [World.cell?, hq]
      simpa using h1
    · exact absurd h1 (by simp)
end

theorem below_step {w a b : World} (h : Below w.heap.size w a) (k : Below a.heap.size a b) : Below w.heap.size w b := h.trans (k.mono h.size)
theorem row_set {w : World} {g : Nat} {cs : Array Value} {t : TypeId} {m : Nat × Nat} (hg : w.heap[g]? = some (.cells cs t m)) {i : Nat} {v : Value} : (w.setCell ⟨g, i, none⟩ v).heap[g]? = some (.cells (cs.setIfInBounds i v) t m) := by
  rw [setCell_eq_setRow w g i cs t m v hg]
  exact setRow_heap _ _ _ _ _ _ hg
theorem cellH {w : World} {g : Nat} {cs : Array Value} {t : TypeId} {m : Nat × Nat} (h : w.heap[g]? = some (.cells cs t m)) (i : Nat) : w.cell? ⟨g, i, none⟩ = cs[i]? := by simp [World.cell?, h]
theorem freeH {w : World} {g : Nat} {cs : Array Value} {t : TypeId} (h : w.heap[g]? = some (.cells cs t (0, 0))) : ∀ i, w.frozen? ⟨g, i, none⟩ = false := fun i => by simp [World.frozen?, h]
end Go.Proofs.YtcddbpdebklhnaaGreatDoor
