/-
  Lines of words in memory, and rows of the call's own that grow to them. No program is named here. What the document's Name, Number, Label (package lockageref07) and find (lockageref08) answer. Conditions: texts and lists of a million bytes, or words, at most. What the document's Label (package lockageref07), find and words (lockageref08) answer. Conditions: lists of a million words at most. The laws' small and like, the document's Right of tries. No conditions but how the numbers lie.
-/
import Derived.Test.YtfjaibaidpbppaaGreatDoorLexP
import Derived.Test.YtfjaibaidpbppaaGreatDoorRng
import Derived.Test.YtfjaibaidpbppaaGreatDoorCodBa
import Derived.Laws.AppendOwn
import Derived.WalkKit
import Derived.Below
import Derived.Lib.Hide
import Derived.Test.YtfjaibaidpbppaaGreatDoorChain
import Derived.Test.YtfjaibaidpbppaaGreatDoorProg
import Derived.Outline
import Derived.Deep.DeepCutAuto
import Derived.Test.YtfjaibaidpbppaaGreatDoorRd1
namespace Go.Proofs.YtfjaibaidpbppaaGreatDoor
open Go.RowKit

def wdC (x : Wd) : List Value := [.string x.t, .int .i64 x.p]
def wdCells (l : List Wd) : List Value := l.flatMap wdC
theorem wdCells_len (l : List Wd) : (wdCells l).length = l.length * 2 := by
  induction l with
  | nil => rfl
  | cons x l ih => simp only [wdCells, List.flatMap_cons, List.length_append, List.length_cons] at ih ⊢; rw [ih]; simp [wdC]; omega
theorem wdCells_add (l m : List Wd) : wdCells (l ++ m) = wdCells l ++ wdCells m := by simp [wdCells]
theorem wdCells_one (x : Wd) : wdCells [x] = wdC x := by simp [wdCells]
theorem wdCells_at : ∀ (l : List Wd) (i : Nat) (x : Wd), l[i]? = some x → (wdCells l)[i * 2]? = some (.string x.t) ∧ (wdCells l)[i * 2 + 1]? = some (.int .i64 x.p)
  | [], i, x, h => by simp at h
  | y :: l, 0, x, h => by
    obtain rfl : y = x := by simpa using h
    simp [wdCells, wdC]
  | y :: l, i + 1, x, h => by
    have h' : l[i]? = some x := by simpa using h
    have := wdCells_at l i x h'
    rw [show (i + 1) * 2 = i * 2 + 2 by omega]
    simpa [wdCells, wdC, List.flatMap_cons] using this

/-- The words l stand at A. -/
def WdsAt (w : World) (A : Option Addr) (l : List Wd) : Prop :=
  0 < l.length → ∃ ad, A = some ad ∧ ∀ i x, l[i]? = some x → w.cell? (ad.add (i * 2)) = some (.string x.t) ∧ w.cell? ⟨(ad.add (i * 2)).block, (ad.add (i * 2)).off + 1, none⟩ = some (.int .i64 x.p)
/-- The lines L stand at A. -/
def LnsAt (w : World) (A : Option Addr) (L : List (List Wd)) : Prop :=
  0 < L.length → ∃ ad, A = some ad ∧ ∀ i l, L[i]? = some l → ∃ B c, w.cell? (ad.add i) = some (.slice B l.length c) ∧ WdsAt w B l ∧ l.length ≤ c
section
variable {w w' : World} {A : Option Addr} {l : List Wd} {L : List (List Wd)}
theorem WdsAt.later (h : WdsAt w A l) (hb : Below w.heap.size w w') : WdsAt w' A l := fun hn => by
  obtain ⟨ad, e, hc⟩ := h hn
  exact ⟨ad, e, fun i x hi => ⟨cell_later hb (hc i x hi).1, cell_later hb (hc i x hi).2⟩⟩
theorem LnsAt.later (h : LnsAt w A L) (hb : Below w.heap.size w w') : LnsAt w' A L := fun hn => by
  obtain ⟨ad, e, hc⟩ := h hn
  refine ⟨ad, e, fun i x hi => ?_⟩
  obtain ⟨B, c, h1, h2, h3⟩ := hc i x hi
  exact ⟨B, c, cell_later hb h1, h2.later hb, h3⟩
theorem WdsAt.at_ {w : World} {A : Option Addr} {l : List Wd} (h : WdsAt w A l) {i : Nat} {x : Wd} (hi : l[i]? = some x) :
    ∃ ad, A = some ad ∧ w.cell? (ad.add (i * 2)) = some (.string x.t) ∧ w.cell? ⟨(ad.add (i * 2)).block, (ad.add (i * 2)).off + 1, none⟩ = some (.int .i64 x.p) := by
  obtain ⟨ad, e, hc⟩ := h (by have := (List.getElem?_eq_some_iff.1 hi).1; omega)
  exact ⟨ad, e, hc i x hi⟩
theorem LnsAt.at_ {w : World} {A : Option Addr} {L : List (List Wd)} (h : LnsAt w A L) {i : Nat} {l : List Wd} (hi : L[i]? = some l) :
    ∃ ad B c, A = some ad ∧ w.cell? (ad.add i) = some (.slice B l.length c) ∧ WdsAt w B l := by
  obtain ⟨ad, e, hc⟩ := h (by have := (List.getElem?_eq_some_iff.1 hi).1; omega)
  obtain ⟨B, c, h1, h2, _⟩ := hc i l hi
  exact ⟨ad, B, c, e, h1, h2⟩
theorem LnsAt.cap {w : World} {A : Option Addr} {L : List (List Wd)} (h : LnsAt w A L) {i : Nat} {l : List Wd} (hi : L[i]? = some l) :
    ∃ ad B c, A = some ad ∧ w.cell? (ad.add i) = some (.slice B l.length c) ∧ WdsAt w B l ∧ l.length ≤ c := by
  obtain ⟨ad, e, hc⟩ := h (by have := (List.getElem?_eq_some_iff.1 hi).1; omega)
  obtain ⟨B, c, h1, h2, h3⟩ := hc i l hi
  exact ⟨ad, B, c, e, h1, h2, h3⟩
/-- The lines L stand at A, all in blocks from lo on. -/
def LnsNew (lo : Nat) (w : World) (A : Option Addr) (L : List (List Wd)) : Prop :=
  0 < L.length → ∃ ad, A = some ad ∧ lo ≤ ad.block ∧ ∀ i l, L[i]? = some l → ∃ B c, w.cell? (ad.add i) = some (.slice B l.length c) ∧ WdsAt w B l ∧ (∀ bd, B = some bd → lo ≤ bd.block) ∧ l.length ≤ c
theorem LnsNew.lns {lo : Nat} {w : World} {A : Option Addr} {L : List (List Wd)} (h : LnsNew lo w A L) : LnsAt w A L := fun hn => by
  obtain ⟨ad, e, _, hc⟩ := h hn
  refine ⟨ad, e, fun i l hi => ?_⟩
  obtain ⟨B, c, h1, h2, _, h4⟩ := hc i l hi
  exact ⟨B, c, h1, h2, h4⟩
theorem LnsNew.wide {lo lo' : Nat} {w : World} {A : Option Addr} {L : List (List Wd)} (h : LnsNew lo w A L) (hl : lo' ≤ lo) : LnsNew lo' w A L := fun hn => by
  obtain ⟨ad, e, h0, hc⟩ := h hn
  refine ⟨ad, e, Nat.le_trans hl h0, fun i l hi => ?_⟩
  obtain ⟨B, c, h1, h2, h3, h4⟩ := hc i l hi
  exact ⟨B, c, h1, h2, fun bd e => Nat.le_trans hl (h3 bd e), h4⟩
theorem LnsNew.later {lo : Nat} {w w' : World} {A : Option Addr} {L : List (List Wd)} (h : LnsNew lo w A L) (hb : Below w.heap.size w w') : LnsNew lo w' A L := fun hn => by
  obtain ⟨ad, e, h0, hc⟩ := h hn
  refine ⟨ad, e, h0, fun i l hi => ?_⟩
  obtain ⟨B, c, h1, h2, h3, h4⟩ := hc i l hi
  exact ⟨B, c, cell_later hb h1, h2.later hb, h3, h4⟩
theorem LnsNew.at_ {lo : Nat} {w : World} {A : Option Addr} {L : List (List Wd)} (h : LnsNew lo w A L) {i : Nat} {l : List Wd} (hi : L[i]? = some l) :
    ∃ ad B c, A = some ad ∧ lo ≤ ad.block ∧ w.cell? (ad.add i) = some (.slice B l.length c) ∧ WdsAt w B l ∧ ∀ bd, B = some bd → lo ≤ bd.block := by
  obtain ⟨ad, e, h0, hc⟩ := h (by have := (List.getElem?_eq_some_iff.1 hi).1; omega)
  obtain ⟨B, c, h1, h2, h3, _⟩ := hc i l hi
  exact ⟨ad, B, c, e, h0, h1, h2, h3⟩
theorem wds_of {g : Nat} {cur : Array Value} {t : TypeId} {m : Nat × Nat} (h : w.heap[g]? = some (.cells cur t m)) (ht : cur.toList.take (l.length * 2) = wdCells l) : WdsAt w (some ⟨g, 0, none⟩) l := fun _ => by
  have hc : ∀ j u, (wdCells l)[j]? = some u → w.cell? ⟨g, j, none⟩ = some u := fun j u hu => by
    rw [← ht, List.getElem?_take] at hu
    split at hu
    · simp only [World.cell?, h]
      simpa using hu
    · exact absurd hu (by simp)
  have hadd : ∀ k, (⟨g, 0, none⟩ : Addr).add k = ⟨g, k, none⟩ := fun k => by unfold Addr.add; split <;> simp_all
  refine ⟨_, rfl, fun i x hi => ?_⟩
  rw [hadd]
  exact ⟨hc _ _ (wdCells_at l i x hi).1, hc _ _ (wdCells_at l i x hi).2⟩
end

/-- The line that is made, and the lines that are done, in rows of the call's own: the line's row is of blocks from lb on, a done line's ahead of it. -/
structure LRows (tW tS : TypeId) (b lb : Nat) (line : List Wd) (out : List (List Wd)) (vl vo : Value) (vs : List Value) (W : World) : Prop where
  rl : W.ownsRow lb tW 2 vl line.length (wdCells line)
  ro : W.ownsRow b tS 1 vo out.length vs
  rd : ∀ (j : Nat) (l : List Wd), out[j]? = some l → ∃ g c cur, vs[j]? = some (.slice (some ⟨g, 0, none⟩) l.length c) ∧ b ≤ g ∧ g < lb ∧ W.heap[g]? = some (.cells cur tW (0, 0)) ∧ cur.toList.take (l.length * 2) = wdCells l ∧ l.length ≤ c
  rb : b ≤ lb ∧ lb ≤ W.heap.size
section
variable {tW tS : TypeId} {b lb : Nat} {line : List Wd} {out : List (List Wd)} {vl vo vl' vo' : Value} {vs : List Value} {W W' : World}
theorem own_agree {base : Nat} {e : TypeId} {size n : Nat} {v : Value} {xs : List Value} {W W' : World} (h : W.ownsRow base e size v n xs) (ha : ∀ q, base ≤ q → q < W.heap.size → W'.heap[q]? = W.heap[q]?) : W'.ownsRow base e size v n xs := by
  obtain ⟨hl, h⟩ := h
  refine ⟨hl, h.imp id ?_⟩
  rintro ⟨q, cap, cur, rfl, hb, hq, h1⟩
  exact ⟨q, cap, cur, rfl, hb, (ha q hb (Array.getElem?_eq_some_iff.1 hq).1).trans hq, h1⟩
theorem own_frame {base : Nat} {e : TypeId} {size n : Nat} {v : Value} {xs : List Value} {W W' : World} (h : W.ownsRow base e size v n xs) (ha : ∀ q cur, base ≤ q → W.heap[q]? = some (.cells cur e (0, 0)) → W'.heap[q]? = W.heap[q]?) : W'.ownsRow base e size v n xs := by
  obtain ⟨hl, h⟩ := h
  refine ⟨hl, h.imp id ?_⟩
  rintro ⟨q, cap, cur, rfl, hb, hq, h1⟩
  exact ⟨q, cap, cur, rfl, hb, (ha q cur hb hq).trans hq, h1⟩
theorem own_tag {base : Nat} {e : TypeId} {size n : Nat} {v : Value} {xs : List Value} {W : World} (h : W.ownsRow base e size v n xs) {g : Nat} (hg : v.ownBlock = some g) : base ≤ g ∧ ∃ cur, W.heap[g]? = some (.cells cur e (0, 0)) := by
  rcases h.2 with ⟨rfl, _⟩ | ⟨q, cap, cur, rfl, hb, hq, _⟩
  · simp [Value.ownBlock] at hg
  · obtain rfl : q = g := by simpa [Value.ownBlock] using hg
    exact ⟨hb, cur, hq⟩
theorem LRows.nil (tW tS : TypeId) (b : Nat) (W : World) (hb : b ≤ W.heap.size) : LRows tW tS b b [] [] (.slice none 0 0) (.slice none 0 0) [] W :=
  ⟨World.ownsRow_nil _ _ _ _, World.ownsRow_nil _ _ _ _, fun j l h => by simp at h, Nat.le_refl _, hb⟩
/-- What was there stays, from block b on. -/
theorem LRows.agree (h : LRows tW tS b lb line out vl vo vs W) (hs : W.heap.size ≤ W'.heap.size) (ha : ∀ q, b ≤ q → q < W.heap.size → W'.heap[q]? = W.heap[q]?) : LRows tW tS b lb line out vl vo vs W' := by
  have hlb := h.rb
  refine ⟨own_agree h.rl (fun q hq => ha q (by omega)), own_agree h.ro ha, fun j l hl => ?_, hlb.1, by omega⟩
  obtain ⟨g, c, cur, h1, h2, h3, h4, h5⟩ := h.rd j l hl
  exact ⟨g, c, cur, h1, h2, h3, (ha g h2 (by omega)).trans h4, h5⟩
theorem LRows.later (h : LRows tW tS b lb line out vl vo vs W) (hb : Below W.heap.size W W') : LRows tW tS b lb line out vl vo vs W' := h.agree hb.size (fun q _ hq => hb.block q hq)
/-- A store ahead of block b. -/
theorem LRows.set (h : LRows tW tS b lb line out vl vo vs W) {B i : Nat} (hB : B < b) (v : Value) : LRows tW tS b lb line out vl vo vs (W.setCell ⟨B, i, none⟩ v) :=
  h.agree (by simp) (fun q hq _ => Below.heap_setCell W ⟨B, i, none⟩ v q (by show q ≠ B; omega))
/-- The line has a word more. -/
theorem LRows.more (h : LRows tW tS b lb line out vl vo vs W) (hT : tW ≠ tS) (x : Wd) (hg : W.grownBy W' vl.ownBlock) (ho : W'.ownsRow lb tW 2 vl' (line.length + 1) (wdCells line ++ wdC x)) : LRows tW tS b lb (line ++ [x]) out vl' vo vs W' := by
  have hlb := h.rb
  refine ⟨by rw [wdCells_add, wdCells_one, List.length_append]; exact ho, own_frame h.ro (fun q cur _ hq => hg.block q (Array.getElem?_eq_some_iff.1 hq).1 (fun e => ?_)), fun j l hl => ?_, hlb.1, Nat.le_trans hlb.2 hg.size⟩
  · obtain ⟨_, cur', h2⟩ := own_tag h.rl e.symm
    rw [hq] at h2
    injection h2 with h2
    injection h2 with _ h3
    exact hT h3.symm
  · obtain ⟨g, c, cur, h1, h2, h3, h4, h5⟩ := h.rd j l hl
    refine ⟨g, c, cur, h1, h2, h3, (hg.block g (by omega) (fun e => ?_)).trans h4, h5⟩
    have := (own_tag h.rl e.symm).1
    omega
/-- The line is done; the next one has no row yet. -/
theorem LRows.next (h : LRows tW tS b lb line out vl vo vs W) (hT : tW ≠ tS) (hn : line ≠ []) (hg : W.grownBy W' vo.ownBlock) (ho : W'.ownsRow b tS 1 vo' (out.length + 1) (vs ++ [vl])) : LRows tW tS b W'.heap.size [] (out ++ [line]) (.slice none 0 0) vo' (vs ++ [vl]) W' := by
  have hlb := h.rb
  have hvs : vs.length = out.length := by have := h.ro.1; omega
  have keep : ∀ (g : Nat) (cur : Array Value), W.heap[g]? = some (.cells cur tW (0, 0)) → W'.heap[g]? = some (.cells cur tW (0, 0)) := fun g cur hc => by
    refine (hg.block g (Array.getElem?_eq_some_iff.1 hc).1 (fun e => ?_)).trans hc
    obtain ⟨_, cur', h2⟩ := own_tag h.ro e.symm
    rw [hc] at h2
    injection h2 with h2
    injection h2 with _ h3
    exact hT h3
  refine ⟨World.ownsRow_nil _ _ _ _, by rw [List.length_append]; exact ho, fun j l hl => ?_, by have := hg.size; omega, Nat.le_refl _⟩
  by_cases hj : j < out.length
  · rw [List.getElem?_append_left hj] at hl
    obtain ⟨g, c, cur, h1, h2, h3, h4, h5⟩ := h.rd j l hl
    exact ⟨g, c, cur, by rw [List.getElem?_append_left (by omega)]; exact h1, h2, by have := hg.size; omega, keep g cur h4, h5⟩
  · have hj2 : j = out.length := by
      have := (List.getElem?_eq_some_iff.1 hl).1
      simp at this
      omega
    subst hj2
    obtain rfl : line = l := by simpa using hl
    rcases h.rl.2 with ⟨_, e⟩ | ⟨g, cap, cur, e, hb, hq, hcp, _, _, ht⟩
    · exact absurd (List.eq_nil_of_length_eq_zero e) hn
    · have := (Array.getElem?_eq_some_iff.1 hq).1
      exact ⟨g, cap, cur, by rw [← hvs]; simp [e], by omega, by have := hg.size; omega, keep g cur hq, ht, hcp⟩
theorem LRows.aheadL (h : LRows tW tS b lb line out vl vo vs W) (hg : W.grownBy W' vl.ownBlock) {q : Nat} (hq : q < b) : W'.heap[q]? = W.heap[q]? := by
  have hlb := h.rb
  refine hg.block q (by omega) (fun e => ?_)
  have := (own_tag h.rl e.symm).1
  omega
theorem LRows.aheadO (h : LRows tW tS b lb line out vl vo vs W) (hg : W.grownBy W' vo.ownBlock) {q : Nat} (hq : q < b) : W'.heap[q]? = W.heap[q]? := by
  have hlb := h.rb
  refine hg.block q (by omega) (fun e => ?_)
  have := (own_tag h.ro e.symm).1
  omega
theorem LRows.belowL {w : World} (h : LRows tW tS b lb line out vl vo vs W) (hb : Below w.heap.size w W) (hg : W.grownBy W' vl.ownBlock) (hq : w.heap.size ≤ b) (hs : w.heap.size ≤ W.heap.size) : Below w.heap.size w W' := by
  have hlb := h.rb
  exact hb.grown hg hs (fun g e => by have := (own_tag h.rl e).1; omega)
theorem LRows.belowO {w : World} (h : LRows tW tS b lb line out vl vo vs W) (hb : Below w.heap.size w W) (hg : W.grownBy W' vo.ownBlock) (hq : w.heap.size ≤ b) (hs : w.heap.size ≤ W.heap.size) : Below w.heap.size w W' := by
  exact hb.grown hg hs (fun g e => by have := (own_tag h.ro e).1; omega)
theorem LRows.lns (h : LRows tW tS b lb line out vl vo vs W) : ∃ A c, vo = .slice A out.length c ∧ LnsNew b W A out ∧ out.length ≤ c := by
  have hvs : vs.length = out.length := by have := h.ro.1; omega
  rcases h.ro.2 with ⟨rfl, e⟩ | ⟨g, cap, cur, rfl, hb, hq, hcp, _, _, ht⟩
  · exact ⟨none, 0, by rw [e], fun h => absurd h (by omega), by omega⟩
  · refine ⟨_, cap, rfl, fun _ => ⟨_, rfl, hb, fun i l hl => ?_⟩, hcp⟩
    obtain ⟨q, c, cur2, h1, h0, _, h4, h5, h6⟩ := h.rd i l hl
    refine ⟨_, c, ?_, wds_of h4 h5, fun bd e => by injection e with e; rw [← e]; exact h0, h6⟩
    have hadd : (⟨g, 0, none⟩ : Addr).add i = ⟨g, i, none⟩ := by unfold Addr.add; split <;> simp_all
    rw [hadd]
    rw [← ht, List.getElem?_take] at h1
    split at h1
    · simp only [World.cell?, hq]
      simpa using h1
    · exact absurd h1 (by simp)
end

end Go.Proofs.YtfjaibaidpbppaaGreatDoor

namespace Go.Proofs.YtfjaibaidpbppaaGreatDoor
open Go.RowKit

theorem nameP_no {s : ByteArray} (h : ¬ nameOk s) : nameP s = false := decide_eq_false h
theorem nameP_yes {s : ByteArray} (h : nameOk s) : nameP s = true := decide_eq_true h
set_option maxHeartbeats 1000000 in
set_option maxRecDepth 100000 in
theorem refname_is (s : ByteArray) (hs : s.size ≤ 1000000) (w : World) : Calls Tryz.prog 59 #[.string s] w fun e w' => e = .returned (.bool (nameP s)) ∧ w = w' := by
  obtain ⟨b, hb⟩ : ∃ b, b = nameP s := ⟨_, rfl⟩
  rw [← hb]
  have HB := Lib.hid hb
  have HBY := Lib.hid (byL_at s)
  clear hb
  go_enter Tryz.func59, Tryz.ntmps59
  go_wp2_with fail
  go_loopw [3] (fun i wr => ∃ k : Nat, i = .int .i64 k ∧ k ≤ s.size ∧ wr = w ∧ ∀ j, j < k → 97 ≤ byL s j ∧ byL s j ≤ 122) (fun i _ => s.size - (intOf i).toNat)
  case atStart => exact ⟨0, rfl, Nat.zero_le _, rfl, fun j h => absurd h (by omega)⟩
  case round =>
    obtain ⟨k, rfl, hk, rfl, hall⟩ := hrel
    have HALL := Lib.hid hall
    clear hall
    by_cases hlt : k < s.size
    · have hB : ∀ h : k < s.size, ((s[k]'h).toNat : Int) = byL s k := HBY.out k
      by_cases h1 : byL s k < 97
      · have HV := Lib.hid (show b = false from HB.out.trans (nameP_no (fun h => by have := h.2.2 k hlt; omega)))
        go_wp2_with fail
        go_ret
        exact ⟨by rw [HV.out]; rfl, rfl⟩
      · by_cases h2 : 122 < byL s k
        · have HV := Lib.hid (show b = false from HB.out.trans (nameP_no (fun h => by have := h.2.2 k hlt; omega)))
          go_wp2_with fail
          go_ret
          exact ⟨by rw [HV.out]; rfl, rfl⟩
        · go_wp2_with fail
          go_roundw
          case rel => exact ⟨k + 1, by go_num, by omega, trivial, fun j hj => by
            rcases Nat.lt_or_ge j k with h | h
            · exact HALL.out j h
            · obtain rfl : j = k := by omega
              omega⟩
          case measure => simp [intOf]; omega
    · obtain rfl : k = s.size := by omega
      by_cases h1 : (1 : Int) ≤ s.size
      · by_cases h2 : (s.size : Int) ≤ 8
        · have HV := Lib.hid (show b = true from HB.out.trans (nameP_yes ⟨by omega, by omega, HALL.out⟩))
          go_wp2_with fail
          go_ret
          exact ⟨by rw [HV.out]; rfl, rfl⟩
        · have HV := Lib.hid (show b = false from HB.out.trans (nameP_no (fun h => by have := h.2.1; omega)))
          go_wp2_with fail
          go_ret
          exact ⟨by rw [HV.out]; rfl, rfl⟩
      · have HV := Lib.hid (show b = false from HB.out.trans (nameP_no (fun h => by have := h.1; omega)))
        go_wp2_with fail
        go_ret
        exact ⟨by rw [HV.out]; rfl, rfl⟩

theorem valN_range {s : ByteArray} : ∀ k, k ≤ 9 → (∀ j, j < k → 48 ≤ byL s j ∧ byL s j ≤ 57) → 0 ≤ valN s k ∧ valN s k < 10 ^ k
  | 0, _, _ => by simp [valN]
  | k + 1, hk, h => by
    obtain ⟨a, b⟩ := valN_range k (by omega) (fun j hj => h j (by omega))
    have := h k (by omega)
    rw [show ((10 : Int) ^ (k + 1)) = 10 ^ k * 10 from Int.pow_succ ..]
    unfold valN
    omega
theorem valN_small {s : ByteArray} {k : Nat} (hk : k ≤ 9) (h : ∀ j, j < k → 48 ≤ byL s j ∧ byL s j ≤ 57) : 0 ≤ valN s k ∧ valN s k < 1000000000 := by
  obtain ⟨a, b⟩ := valN_range k hk h
  have : (10 : Int) ^ k ≤ 10 ^ 9 := by
    match k, hk with
    | 0, _ | 1, _ | 2, _ | 3, _ | 4, _ | 5, _ | 6, _ | 7, _ | 8, _ | 9, _ => decide
  omega
/-- What Number answers. -/
def numV : Option Int → Value
  | none => .tuple #[.int .i64 0, .bool false]
  | some n => .tuple #[.int .i64 n, .bool true]
theorem numP_no {s : ByteArray} {lo hi : Int} (h : ¬ numOk s) : numP s lo hi = none := if_neg (fun k => h k.1)
end Go.Proofs.YtfjaibaidpbppaaGreatDoor

namespace Go.Proofs.YtfjaibaidpbppaaGreatDoor
open Go.RowKit

/-- What Label answers. -/
def labV : Option (Int × Int) → Value
  | none => .tuple #[.agg #[.int .i64 0, .int .u16 0], .bool false]
  | some (a, b) => .tuple #[.agg #[.int .i64 a, .int .u16 b], .bool true]
theorem TextsAt.later {w w' : World} {A : Option Addr} {L : List ByteArray} (h : TextsAt w A L) (hb : Below w.heap.size w w') : TextsAt w' A L := fun hn => by
  obtain ⟨ad, e, hc⟩ := h hn
  exact ⟨ad, e, fun i x hi => cell_later hb (hc i x hi)⟩
theorem TextsAt.at_ {w : World} {A : Option Addr} {L : List ByteArray} (h : TextsAt w A L) {i : Nat} {s : ByteArray} (hi : L[i]? = some s) : ∃ ad, A = some ad ∧ w.cell? (ad.add i) = some (.string s) := by
  obtain ⟨ad, e, hc⟩ := h (by have := (List.getElem?_eq_some_iff.1 hi).1; omega)
  exact ⟨ad, e, hc i s hi⟩
theorem findP_none {l : List ByteArray} {x : ByteArray} (h : ∀ j : Nat, j < l.length → l[j]? ≠ some x) : findP l x = none := by
  unfold findP
  rw [List.findIdx?_eq_none_iff]
  intro y hy
  obtain ⟨j, hj, rfl⟩ := List.mem_iff_getElem.1 hy
  exact decide_eq_false (fun e => h j hj (by rw [List.getElem?_eq_getElem hj, e]))
theorem findP_some {l : List ByteArray} {x : ByteArray} {k : Nat} (hk : l[k]? = some x) (h : ∀ j : Nat, j < k → l[j]? ≠ some x) : findP l x = some k := by
  have hlt := (List.getElem?_eq_some_iff.1 hk).1
  unfold findP
  rw [List.findIdx?_eq_some_iff_getElem]
  refine ⟨hlt, decide_eq_true ?_, fun j hj => ?_⟩
  · rw [List.getElem?_eq_getElem hlt] at hk
    exact Option.some.inj hk
  · have hj2 : j < l.length := by omega
    have := h j hj
    rw [List.getElem?_eq_getElem hj2] at this
    simpa using this
theorem memB_find (x : ByteArray) (l : List ByteArray) : memB x l = (findP l x).isSome := by
  unfold memB findP
  rw [List.findIdx?_isSome]
/-- A place, or -1. -/
def idxI : Option Nat → Int
  | none => -1
  | some k => k
theorem idxI_neg (o : Option Nat) : decide (idxI o < 0) = !o.isSome := by
  cases o with
  | none => rfl
  | some k => exact decide_eq_false (by show ¬ (k : Int) < 0; omega)
theorem idxI_pos (o : Option Nat) : decide (0 ≤ idxI o) = o.isSome := by
  cases o with
  | none => rfl
  | some k => exact decide_eq_true (by show (0 : Int) ≤ k; omega)
theorem ba_same {s t : ByteArray} : (s.toList == t.toList) = decide (s = t) := by
  rw [Bool.eq_iff_iff]
  simp only [beq_iff_eq, decide_eq_true_eq, Go.ByteArray.toList_eq]
  constructor
  · intro h
    exact ByteArray.ext (Array.toList_inj.1 h)
  · intro h
    rw [h]
theorem texts_made (w : World) (L : List ByteArray) (t : TypeId) : TextsAt (w.alloc (.cells (L.map Value.string).toArray t)) (some ⟨w.heap.size, 0, none⟩) L := fun _ => ⟨_, rfl, fun i s h => by
  have hadd : (⟨w.heap.size, 0, none⟩ : Addr).add i = ⟨w.heap.size, i, none⟩ := by unfold Addr.add; split <;> simp_all
  rw [hadd, cellH (made_at w _) i]
  simp [h]⟩
end Go.Proofs.YtfjaibaidpbppaaGreatDoor

namespace Go.Proofs.YtfjaibaidpbppaaGreatDoor
open Go.RowKit

theorem info_tryL : (Tryz.prog.info? 73).map (·.size) = some 6 := by kernel_rfl
def smB (n : Int) : Bool := decide (-1099511627776 ≤ n) && decide (n ≤ 1099511627776)
theorem smB_iff {n : Int} : smB n = true ↔ smI n := by unfold smB smI; simp
def tryL (t : TrP) : List Int := [t.st, t.sn, t.ms, t.wk, t.ls, t.un]
theorem tryL_small {t : TrP} (h : (tryL t).all smB = true) : SmallT t := by
  unfold tryL at h
  simp only [List.all_cons, List.all_nil, Bool.and_true, Bool.and_eq_true, smB_iff] at h
  exact ⟨h.1, h.2.1, h.2.2.1, h.2.2.2.1, h.2.2.2.2.1, h.2.2.2.2.2⟩
theorem six_new (w : World) (t : TypeId) (a b c d e f : Value) : ∀ j u, [a, b, c, d, e, f][j]? = some u → (w.alloc (.cells #[a, b, c, d, e, f] t)).cell? ((⟨w.heap.size, 0, none⟩ : Addr).add j) = some u := by
  intro j u hu
  have ha : (⟨w.heap.size, 0, none⟩ : Addr).add j = ⟨w.heap.size, j, none⟩ := by unfold Addr.add; split <;> simp_all
  rw [ha, cellH (made_at w _)]
  simpa using hu
section
variable {w W : World} {g n : Nat} {T : TypeId} {a0 a1 a2 a3 a4 a5 v0 v1 v2 v3 v4 v5 : Value}
theorem six_row (h : W.heap[g]? = some (.cells #[a0, a1, a2, a3, a4, a5] T (0, 0))) : ((((((W.setCell ⟨g, 0, none⟩ v0).setCell ⟨g, 1, none⟩ v1).setCell ⟨g, 2, none⟩ v2).setCell ⟨g, 3, none⟩ v3).setCell ⟨g, 4, none⟩ v4).setCell ⟨g, 5, none⟩ v5).heap[g]? = some (.cells #[v0, v1, v2, v3, v4, v5] T (0, 0)) := by
  have := row_set (i := 5) (v := v5) (row_set (i := 4) (v := v4) (row_set (i := 3) (v := v3) (row_set (i := 2) (v := v2) (row_set (i := 1) (v := v1) (row_set (i := 0) (v := v0) h)))))
  rw [this]
  simp
theorem six_keep {q : Nat} (hq : q ≠ g) : ((((((W.setCell ⟨g, 0, none⟩ v0).setCell ⟨g, 1, none⟩ v1).setCell ⟨g, 2, none⟩ v2).setCell ⟨g, 3, none⟩ v3).setCell ⟨g, 4, none⟩ v4).setCell ⟨g, 5, none⟩ v5).heap[q]? = W.heap[q]? := by
  have o : ∀ (V : World) (i : Nat) (v : Value), (V.setCell ⟨g, i, none⟩ v).heap[q]? = V.heap[q]? := fun V i v => Below.heap_setCell V ⟨g, i, none⟩ v q (by simpa using hq)
  rw [o, o, o, o, o, o]
theorem six_below (h : Below n w W) (hg : n ≤ g) : Below n w ((((((W.setCell ⟨g, 0, none⟩ v0).setCell ⟨g, 1, none⟩ v1).setCell ⟨g, 2, none⟩ v2).setCell ⟨g, 3, none⟩ v3).setCell ⟨g, 4, none⟩ v4).setCell ⟨g, 5, none⟩ v5) :=
  (((((h.setCell (p := ⟨g, 0, none⟩) hg v0).setCell (p := ⟨g, 1, none⟩) hg v1).setCell (p := ⟨g, 2, none⟩) hg v2).setCell (p := ⟨g, 3, none⟩) hg v3).setCell (p := ⟨g, 4, none⟩) hg v4).setCell (p := ⟨g, 5, none⟩) hg v5
end
end Go.Proofs.YtfjaibaidpbppaaGreatDoor
