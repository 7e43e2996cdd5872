/-
  What the document's Lines (package lockageref07) answers: any text's lines, or where it is wrong. No conditions. What the document's Names (package lockageref07) answers: a word's parts between commas, in a row of its own, or the place of the first that is no name. Conditions: a word of a million bytes at most, at a place below a million. What layer 12's laws ask of the program's gate (a bundle); the first line of the laws. No conditions. A try that comes in as an argument, opened. No conditions. The first line of layer 11's laws, over the bundle. No conditions.
-/
import Derived.Test.YtfjaibaidpbppaaGreatDoorProg
import Derived.Test.YtfjaibaidpbppaaGreatDoorLsA
import Derived.Deep.DeepCutAuto
import Derived.BigRegion
import Derived.Outline
import Derived.Test.YtfjaibaidpbppaaGreatDoorRd1
import Derived.ProofKit
import Derived.OpenShut
import Derived.ChangeOld
import Derived.Lib.SmallJoins
namespace Go.Proofs.YtfjaibaidpbppaaGreatDoor
open Go.RowKit

theorem info_all {t : TypeId} {z : Option Value} {n b : Nat} (h : (Tryz.prog.info? t).map (fun i => (i.zero, i.size, i.bytes)) = some (z, n, b)) : ∃ i, Tryz.prog.info? t = some i ∧ i.zero = z ∧ i.size = n ∧ i.bytes = b := by
  cases hi : Tryz.prog.info? t with
  | none => rw [hi] at h; exact absurd h (by simp)
  | some i =>
    rw [hi] at h
    simp only [Option.map_some, Option.some.injEq, Prod.mk.injEq] at h
    exact ⟨i, rfl, h.1, h.2.1, h.2.2⟩
theorem own_slice {base : Nat} {e : TypeId} {size n : Nat} {v : Value} {xs : List Value} {W : World} (h : W.ownsRow base e size v n xs) : ∃ A c, v = .slice A n c := by
  rcases h.2 with ⟨rfl, e⟩ | ⟨g, cap, cur, rfl, _⟩
  · exact ⟨_, _, by rw [e]⟩
  · exact ⟨_, _, rfl⟩
theorem cells_new (w : World) (xs : List Value) (t : TypeId) : ∀ j u, xs[j]? = some u → (w.alloc (.cells xs.toArray t)).cell? ((⟨w.heap.size, 0, none⟩ : Addr).add j) = some u := by
  intro j u hu
  have hadd : (⟨w.heap.size, 0, none⟩ : Addr).add j = ⟨w.heap.size, j, none⟩ := by unfold Addr.add; split <;> simp_all
  rw [hadd, cellH (made_at w (.cells xs.toArray t)) j]
  simpa using hu

theorem ba_some {s : ByteArray} (h : ¬ s = .empty) : s.toList.isEmpty = false := by
  rw [Go.ByteArray.toList_eq]
  cases hd : s.data.toList with
  | nil => exact absurd (ByteArray.ext (Array.toList_inj.1 (hd.trans rfl))) h
  | cons x l => rfl

def LxOut (w : World) (r : LxR) (e : Ending) (w' : World) : Prop := Below w.heap.size w w' ∧ match r with
  | .bad x p => e = .returned (.tuple #[.slice none 0 0, .int .i64 x, .int .i64 p])
  | .good L => ∃ A c, e = .returned (.tuple #[.slice A L.length c, .int .i64 0, .int .i64 0]) ∧ LnsNew w.heap.size w' A L

end Go.Proofs.YtfjaibaidpbppaaGreatDoor

namespace Go.Proofs.YtfjaibaidpbppaaGreatDoor
open Go.RowKit

theorem namesGo_end (s : ByteArray) (p fr i : Nat) (out : List Wd) : namesGo s p 0 fr i out = if nameP (s.extract fr i) then .inl (out ++ [⟨s.extract fr i, p + fr⟩]) else .inr (p + fr) := rfl
theorem namesGo_comma {s : ByteArray} {p f fr i : Nat} {out : List Wd} (h : byL s i = 44) : namesGo s p (f + 1) fr i out = if nameP (s.extract fr i) then namesGo s p f (i + 1) (i + 1) (out ++ [⟨s.extract fr i, p + fr⟩]) else .inr (p + fr) := by rw [namesGo, if_pos h]
theorem namesGo_on {s : ByteArray} {p f fr i : Nat} {out : List Wd} (h : byL s i ≠ 44) : namesGo s p (f + 1) fr i out = namesGo s p f fr (i + 1) out := by rw [namesGo, if_neg h]
/-- From place i on; behind the end: what there is. -/
def namesAt (s : ByteArray) (p fr i : Nat) (out : List Wd) : List Wd ⊕ Nat := if i ≤ s.size then namesGo s p (s.size - i) fr i out else .inl out

theorem namesAt_in {s : ByteArray} {p fr i : Nat} {out : List Wd} (h : i ≤ s.size) : namesAt s p fr i out = namesGo s p (s.size - i) fr i out := if_pos h
theorem namesAt_out {s : ByteArray} {p fr i : Nat} {out : List Wd} (h : ¬ i ≤ s.size) : namesAt s p fr i out = .inl out := if_neg h

end Go.Proofs.YtfjaibaidpbppaaGreatDoor

namespace Go.Proofs.YtfjaibaidpbppaaGreatDoor
open Go.RowKit

/-- What the program's Vote answers. -/
def VtP (w : World) (yes : List Int) (no may : Bool) (e : Ending) (w' : World) : Prop := ∃ B b, e = .returned (.tuple #[.agg #[.slice B yes.length b, .bool no], .bool may]) ∧ IntsC w' B b yes ∧ Below w.heap.size w w'
/-- Votes in a block. -/
def VtAt (w : World) (g : Nat) (A : Option Addr) (c : Nat) (yes : List Int) (no : Bool) : Prop := w.heap[g]? = some (.cells #[.slice A yes.length c, .bool no] 75 (0, 0)) ∧ IntsC w A c yes
theorem VtAt.later {w w' : World} {g : Nat} {A : Option Addr} {c : Nat} {yes : List Int} {no : Bool} (h : VtAt w g A c yes no) (hb : Below w.heap.size w w') : VtAt w' g A c yes no := ⟨later_at hb h.1, h.2.later hb⟩
theorem VtAt.cells {w : World} {g : Nat} {A : Option Addr} {c : Nat} {yes : List Int} {no : Bool} (h : VtAt w g A c yes no) : w.cell? ⟨g, 0, none⟩ = some (.slice A yes.length c) ∧ w.cell? ⟨g, 1, none⟩ = some (.bool no) :=
  ⟨by rw [cellH h.1]; rfl, by rw [cellH h.1]; rfl⟩
theorem VtAt.made {w : World} {A : Option Addr} {c : Nat} {yes : List Int} (h : IntsC w A c yes) (no : Bool) : VtAt (w.alloc (.cells #[.slice A yes.length c, .bool no] 75)) w.heap.size A c yes no :=
  ⟨made_at w _, h.later ((Below.refl _ _).alloc (Nat.le_refl _) _)⟩
theorem ints_new (w : World) (l : List Int) (_ : 0 < l.length) : IntsC (w.alloc (.cells (l.map (Value.int .i64)).toArray 3)) (some ⟨w.heap.size, 0, none⟩) l.length l := by
  refine ⟨fun _ => ⟨_, rfl, fun i hi => ?_⟩, Nat.le_refl _, fun h => by cases h⟩
  have ha : (⟨w.heap.size, 0, none⟩ : Addr).add i = ⟨w.heap.size, i, none⟩ := by unfold Addr.add; split <;> simp_all
  rw [ha, cellH (made_at w _)]
  simp [List.getElem?_eq_getElem hi]
end Go.Proofs.YtfjaibaidpbppaaGreatDoor

namespace Go.Proofs.YtfjaibaidpbppaaGreatDoor
open Go.ChangeShapes Go.WideShapes Go.ChangeAt Go.RowKit Go.Joins

/-- Six numbers of 64 bits. -/
structure TrP.In (t : TrP) : Prop where
  st : -9223372036854775808 ≤ t.st ∧ t.st ≤ 9223372036854775807
  sn : -9223372036854775808 ≤ t.sn ∧ t.sn ≤ 9223372036854775807
  ms : -9223372036854775808 ≤ t.ms ∧ t.ms ≤ 9223372036854775807
  wk : -9223372036854775808 ≤ t.wk ∧ t.wk ≤ 9223372036854775807
  ls : -9223372036854775808 ≤ t.ls ∧ t.ls ≤ 9223372036854775807
  un : -9223372036854775808 ≤ t.un ∧ t.un ≤ 9223372036854775807
section
variable {H : Type} {enc : TypeId × Value → H} {w : World} {base : Nat} {spare : Nat → Bool} {held : Bool}
theorem cellsTry : Tryz.prog.cellsOf 73 = 6 := by kernel_rfl
theorem cellsI6 : Tryz.prog.cellsOf 3 = 1 := by kernel_rfl
set_option maxRecDepth 100000 in
theorem try_open {r : Reach} {b0 : Nat} {v : Value} {d : DataW H} {p : List MemPlace} (hv : Value.okWide Tryz.prog w r b0 73 v) (h : DataW.Trod enc Tryz.prog w base spare held 73 v d p) : ∃ q : TrP, v = tryV q ∧ q.In := by
  obtain ⟨cs, rfl, hsz⟩ := okWide_struct Tryz.underlying73 hv
  obtain ⟨fuel, hf0⟩ := h
  obtain ⟨xs, n, _, _, hlen, hxl, hf⟩ := DataW.trod_struct Tryz.underlying73 hf0
  rw [cellsTry] at hsz
  obtain ⟨l⟩ := cs
  match l, hsz with
  | [c0, c1, c2, c3, c4, c5], _ =>
    have h0 := hf 0 _ rfl
    have h1 := hf 1 _ rfl
    have h2 := hf 2 _ rfl
    have h3 := hf 3 _ rfl
    have h4 := hf 4 _ rfl
    have h5 := hf 5 _ rfl
    have hx0 : xs[0]? = some (xs[0]'(by rw [hxl]; decide)) := List.getElem?_eq_getElem _
    have hx1 : xs[1]? = some (xs[1]'(by rw [hxl]; decide)) := List.getElem?_eq_getElem _
    have hx2 : xs[2]? = some (xs[2]'(by rw [hxl]; decide)) := List.getElem?_eq_getElem _
    have hx3 : xs[3]? = some (xs[3]'(by rw [hxl]; decide)) := List.getElem?_eq_getElem _
    have hx4 : xs[4]? = some (xs[4]'(by rw [hxl]; decide)) := List.getElem?_eq_getElem _
    have hx5 : xs[5]? = some (xs[5]'(by rw [hxl]; decide)) := List.getElem?_eq_getElem _
    rw [hx0] at h0
    rw [hx1] at h1
    rw [hx2] at h2
    rw [hx3] at h3
    rw [hx4] at h4
    rw [hx5] at h5
    simp only [List.getElem_toArray, List.getElem_cons_zero, List.getElem_cons_succ] at h0 h1 h2 h3 h4 h5
    simp only [Value.cells, cellsI6, List.drop_zero, List.take_succ_cons, List.take_zero, List.drop_succ_cons] at h0 h1 h2 h3 h4 h5
    obtain ⟨a0, e0, _, w0⟩ := DataW.trod_int Tryz.underlying3 h0
    obtain ⟨a1, e1, _, w1⟩ := DataW.trod_int Tryz.underlying3 h1
    obtain ⟨a2, e2, _, w2⟩ := DataW.trod_int Tryz.underlying3 h2
    obtain ⟨a3, e3, _, w3⟩ := DataW.trod_int Tryz.underlying3 h3
    obtain ⟨a4, e4, _, w4⟩ := DataW.trod_int Tryz.underlying3 h4
    obtain ⟨a5, e5, _, w5⟩ := DataW.trod_int Tryz.underlying3 h5
    injection e0 with e0
    injection e1 with e1
    injection e2 with e2
    injection e3 with e3
    injection e4 with e4
    injection e5 with e5
    subst e0 e1 e2 e3 e4 e5
    exact ⟨⟨a0, a1, a2, a3, a4, a5⟩, rfl, ⟨bounds_i64 w0, bounds_i64 w1, bounds_i64 w2, bounds_i64 w3, bounds_i64 w4, bounds_i64 w5⟩⟩
end
end Go.Proofs.YtfjaibaidpbppaaGreatDoor

namespace Go.Proofs.YtfjaibaidpbppaaGreatDoor
open Go.RowKit

/-- What is held: tries in blocks. -/
def TrS (w0 : World) (L : List (Nat × TrP)) (W : World) : Prop := (∀ x ∈ L, W.heap[x.1]? = some (.cells (tryA x.2) 73 (0, 0))) ∧ Below w0.heap.size w0 W
theorem TrS.keep {w0 : World} {L : List (Nat × TrP)} : ∀ v v', TrS w0 L v → Below v.heap.size v v' → TrS w0 L v' := fun _ _ h hb => ⟨fun x hx => later_at hb (h.1 x hx), below_step h.2 hb⟩
theorem TrS.cells {w0 W : World} {L : List (Nat × TrP)} (h : TrS w0 L W) (i : Nat) {g : Nat} {t : TrP} (hm : L[i]? = some (g, t)) :
    W.cell? ⟨g, 0, none⟩ = some (.int .i64 t.st) ∧ W.cell? ⟨g, 1, none⟩ = some (.int .i64 t.sn) ∧ W.cell? ⟨g, 2, none⟩ = some (.int .i64 t.ms) ∧ W.cell? ⟨g, 3, none⟩ = some (.int .i64 t.wk) ∧ W.cell? ⟨g, 4, none⟩ = some (.int .i64 t.ls) ∧ W.cell? ⟨g, 5, none⟩ = some (.int .i64 t.un) := by
  have h1 := h.1 _ (List.mem_of_getElem? hm)
  exact ⟨by rw [cellH h1]; rfl, by rw [cellH h1]; rfl, by rw [cellH h1]; rfl, by rw [cellH h1]; rfl, by rw [cellH h1]; rfl, by rw [cellH h1]; rfl⟩
theorem tr_at {W : World} {g : Nat} {t : TrP} (h1 : W.heap[g]? = some (.cells (tryA t) 73 (0, 0))) :
    W.cell? ⟨g, 0, none⟩ = some (.int .i64 t.st) ∧ W.cell? ⟨g, 1, none⟩ = some (.int .i64 t.sn) ∧ W.cell? ⟨g, 2, none⟩ = some (.int .i64 t.ms) ∧ W.cell? ⟨g, 3, none⟩ = some (.int .i64 t.wk) ∧ W.cell? ⟨g, 4, none⟩ = some (.int .i64 t.ls) ∧ W.cell? ⟨g, 5, none⟩ = some (.int .i64 t.un) :=
  ⟨by rw [cellH h1]; rfl, by rw [cellH h1]; rfl, by rw [cellH h1]; rfl, by rw [cellH h1]; rfl, by rw [cellH h1]; rfl, by rw [cellH h1]; rfl⟩
theorem sm_lit {n : Int} (h : smB n = true) : smI n := smB_iff.1 h
abbrev lsA : TrP := ⟨1, 3, 0, 0, 0, 0⟩
abbrev lsH : TrP := ⟨2, 0, 0, 1, 7, 8⟩
abbrev lsS : TrP := ⟨1, 9, 1, 0, 0, 0⟩
end Go.Proofs.YtfjaibaidpbppaaGreatDoor
