/-
  What layer 13's laws ask of the program's runs (a bundle), over how a run lies in memory; the law's text. Conditions: what the library's variables hold. Sets of texts and small functions of the program's manifests. No conditions. A map from numbers to bools that the call makes, in which the first q of some numbers stand; rows of truths of the call's own. No conditions.
-/
import Derived.Test.YtfjaibaidpbppaaGreatDoorRnP
import Derived.Test.YtfjaibaidpbppaaGreatDoorCodBa
import Derived.Test.YtfjaibaidpbppaaGreatDoorOrdR
import Derived.Test.YtfjaibaidpbppaaGreatDoorLsR
import Derived.Test.YtfjaibaidpbppaaGreatDoorRng
import Derived.Test.YtfjaibaidpbppaaGreatDoorLsA
import Derived.Maps.OwnSet
import Derived.Maps.OwnOps
import Derived.Maps.Views
import Derived.KernelRfl
import Derived.Test.YtfjaibaidpbppaaGreatDoorFlat
import Derived.WalkArith
namespace Go.Proofs.YtfjaibaidpbppaaGreatDoor
open Go.RowKit

/-- How a run lies in memory: the blocks that its calls turn (M), those that it only reads (X), its own (R). -/
abbrev RnAt : Type := World → List Nat → List Nat → Nat → RunP → Prop
/-- Behind a call that turns a run. -/
def RnW (A : RnAt) (W : World) (M X : List Nat) (R : Nat) (z : RunP) (W' : World) : Prop := ∃ M' X', A W' M' X' R z ∧ OnlyO M W W' ∧ New M M' W ∧ New X X' W
/-- From 0 to a million. -/
def milI (n : Int) : Prop := 0 ≤ n ∧ n ≤ 1000000
abbrev ptrV (R : Nat) : Value := .pointer (some ⟨R, 0, none⟩)
/-- What has been read: none, or a run, and what is left. -/
structure RdRun (S : ByteArray) (r : Option RunP) (S' : ByteArray) (b : Bool) : Prop where
  none_ : r = none → b = true
  some_ : ∀ z, r = some z → b = false ∧ S = textR z ++ S' ∧ RunRight z
  full : ∀ z T, RunRight z → S = textR z ++ T → r = some z ∧ S' = T
structure RunOk (A : RnAt) : Prop where
  keep : ∀ {W V : World} {M X : List Nat} {R : Nat} {z : RunP} {O : List Nat}, A W M X R z → OnlyO O W V → (∀ i ∈ O, i ∉ M ∧ i ∉ X) → A V M X R z
  low : ∀ {W : World} {M X : List Nat} {R : Nat} {z : RunP}, A W M X R z → ∀ i, i ∈ M ∨ i ∈ X → i < W.heap.size
  apart : ∀ {W : World} {M X : List Nat} {R : Nat} {z : RunP}, A W M X R z → ∀ i ∈ M, i ∉ X
  new : ∀ {w : World} {B : Option Addr} {c : Nat} {n : ByteArray} {ts : List TkP} {now : Int}, TksAt w B ts → MayP n ts → milI now →
    Calls Tryz.prog 10 #[.agg #[.string n, .slice B ts.length c], .int .i64 now] w fun e w' => ∃ R M X, e = .returned (ptrV R) ∧ A w' M X R (newR n ts now) ∧ Below w.heap.size w w' ∧ ∀ i ∈ M, w.heap.size ≤ i
  newNo : ∀ (w : World), Calls Tryz.prog 10 #[.agg #[.string .empty, .slice none 0 0], .int .i64 0] w fun e w' => e = .returned (.pointer none) ∧ Below w.heap.size w w'
  settle : ∀ {W : World} {M X : List Nat} {R : Nat} {z : RunP} {now : Int}, A W M X R z → RunOf z → milI now →
    Calls Tryz.prog 11 #[ptrV R, .int .i64 now] W fun e W' => e = .returned (.tuple #[]) ∧ RnW A W M X R (setR z now) W'
  status : ∀ {W : World} {M X : List Nat} {R : Nat} {z : RunP}, A W M X R z → RunOf z → Calls Tryz.prog 16 #[ptrV R] W fun e W' => e = .returned (.int .i64 (statR z)) ∧ Below W.heap.size W W'
  take : ∀ {W : World} {M X : List Nat} {R : Nat} {z : RunP} {now wk ls : Int} (i : Int), A W M X R z → RunOf z → milI now → milI wk → milI ls → -9223372036854775808 ≤ i → i ≤ 9223372036854775807 →
    Calls Tryz.prog 12 #[ptrV R, .int .i64 i, .int .i64 now, .int .i64 wk, .int .i64 ls] W fun e W' => e = .returned (.int .i64 (takeR z i now wk ls).2) ∧ RnW A W M X R (takeR z i now wk ls).1 W'
  complete : ∀ {W : World} {M X : List Nat} {R : Nat} {z : RunP} {now : Int} {s : ByteArray} (i : Int), A W M X R z → RunOf z → milI now → s.size ≤ 1000000 → -9223372036854775808 ≤ i → i ≤ 9223372036854775807 →
    Calls Tryz.prog 13 #[ptrV R, .int .i64 i, .int .i64 now, .string s] W fun e W' => e = .returned (.int .i64 (compR z i now s).2) ∧ RnW A W M X R (compR z i now s).1 W'
  miss : ∀ {W : World} {M X : List Nat} {R : Nat} {z : RunP} {now : Int} (i : Int), A W M X R z → RunOf z → milI now → -9223372036854775808 ≤ i → i ≤ 9223372036854775807 →
    Calls Tryz.prog 14 #[ptrV R, .int .i64 i, .int .i64 now] W fun e W' => e = .returned (.int .i64 (missR z i now).2) ∧ RnW A W M X R (missR z i now).1 W'
  beat : ∀ {W : World} {M X : List Nat} {R : Nat} {z : RunP} {now : Int} (i : Int), A W M X R z → RunOf z → milI now → -9223372036854775808 ≤ i → i ≤ 9223372036854775807 →
    Calls Tryz.prog 26 #[ptrV R, .int .i64 i, .int .i64 now] W fun e W' => e = .returned (.int .i64 (beatR z i now).2) ∧ RnW A W M X R (beatR z i now).1 W'
  copy : ∀ {W : World} {M X : List Nat} {R : Nat} {z : RunP}, A W M X R z → RunOf z → Calls Tryz.prog 15 #[ptrV R] W fun e W' => ∃ Q M' X', e = .returned (ptrV Q) ∧ A W' M' X' Q z ∧ Below W.heap.size W W' ∧ (∀ i ∈ M', W.heap.size ≤ i) ∧ New X X' W
  write : ∀ {w W : World} {m P : Nat} {T : ByteArray} {M X : List Nat} {R : Nat} {z : RunP}, A W M X R z → RunOf z → WrB w W m P T → Below w.heap.size w W → m ≤ W.heap.size → (∀ i, i ∈ M ∨ i ∈ X → i < w.heap.size ∨ m ≤ i) → T.size ≤ 1000000 →
    Calls Tryz.prog 45 #[ptrV R, ptrV P] W (WroteB w W m P (wRun T z))
  best : ∀ {W : World} {M X : List Nat} {R : Nat} {z : RunP} {now : Int}, A W M X R z → RunOf z → milI now → Calls Tryz.prog 22 #[ptrV R, .int .i64 now] W fun e W' => e = .returned (.tuple #[.int .i64 (bestR z now).1, .int .i64 (bestR z now).2.1, .bool (bestR z now).2.2]) ∧ Below W.heap.size W W'
  find : ∀ {W : World} {M X : List Nat} {R : Nat} {z : RunP} {now wk ls : Int}, A W M X R z → RunOf z → milI now → milI wk → milI ls → Calls Tryz.prog 23 #[ptrV R, .int .i64 now, .int .i64 wk, .int .i64 ls] W fun e W' => e = .returned (.tuple #[.int .i64 (findR z now wk ls).1, .bool (findR z now wk ls).2]) ∧ Below W.heap.size W W'
  vote : ∀ {W : World} {M X : List Nat} {R : Nat} {z : RunP} (i who : Int) (is : Bool), A W M X R z → RunOf z → -9223372036854775808 ≤ i → i ≤ 9223372036854775807 →
    Calls Tryz.prog 24 #[ptrV R, .int .i64 i, .int .i64 who, .bool is] W fun e W' => e = .returned (.tuple #[.bool (voteR z i who is).2.1, .int .i64 (voteR z i who is).2.2]) ∧ RnW A W M X R (voteR z i who is).1 W'
  let_ : ∀ {W : World} {M X : List Nat} {R : Nat} {z : RunP} {now : Int} (i : Int), A W M X R z → RunOf z → milI now → -9223372036854775808 ≤ i → i ≤ 9223372036854775807 →
    Calls Tryz.prog 25 #[ptrV R, .int .i64 i, .int .i64 now] W fun e W' => e = .returned (.tuple #[.string (letR z i now).2.1, .int .i64 (letR z i now).2.2]) ∧ RnW A W M X R (letR z i now).1 W'
  cancel : ∀ {W : World} {M X : List Nat} {R : Nat} {z : RunP}, A W M X R z → RunOf z → Calls Tryz.prog 27 #[ptrV R] W fun e W' => e = .returned (.int .i64 (cancelR z).2) ∧ RnW A W M X R (cancelR z).1 W'
  input : ∀ {W : World} {M X : List Nat} {R : Nat} {z : RunP} (i : Int), A W M X R z → RunOf z → VarsAt W → -9223372036854775808 ≤ i → i ≤ 9223372036854775807 →
    Calls Tryz.prog 28 #[ptrV R, .int .i64 i] W fun e W' => e = .returned (.string (inputR z i)) ∧ Below W.heap.size W W'
  state : ∀ {W : World} {M X : List Nat} {R : Nat} {z : RunP} (i : Int), A W M X R z → RunOf z → -9223372036854775808 ≤ i → i ≤ 9223372036854775807 →
    Calls Tryz.prog 29 #[ptrV R, .int .i64 i] W fun e W' => e = .returned (.int .i64 (stateR z i)) ∧ Below W.heap.size W W'
  pipe : ∀ {W : World} {M X : List Nat} {R : Nat} {z : RunP}, A W M X R z → RunOf z → Calls Tryz.prog 21 #[ptrV R] W fun e W' => ∃ B c, e = .returned (.agg #[.string z.pn, .slice B z.ts.length c]) ∧ TksAt W' B z.ts ∧ Below W.heap.size W W'
  read : ∀ {w : World} {Q : Nat} {S : ByteArray}, RdAt w Q S false → VarsAt w → S.size ≤ 1000000 → Calls Tryz.prog 19 #[ptrV Q] w fun e w' => ∃ r S' b, RdAt w' Q S' b ∧ Only1 Q w w' ∧ RdRun S r S' b ∧
    (r = none → e = .returned (.pointer none)) ∧ ∀ z, r = some z → ∃ R M X, e = .returned (ptrV R) ∧ A w' M X R z ∧ ∀ i, i ∈ M ∨ i ∈ X → w.heap.size ≤ i
/-- The calls of none. -/
structure RunNo : Prop where
  settle : ∀ (w : World) (now : Int), Calls Tryz.prog 11 #[.pointer none, .int .i64 now] w fun e w' => e = .returned (.tuple #[]) ∧ Below w.heap.size w w'
  status : ∀ (w : World), Calls Tryz.prog 16 #[.pointer none] w fun e w' => e = .returned (.int .i64 2) ∧ Below w.heap.size w w'
  best : ∀ (w : World) (now : Int), Calls Tryz.prog 22 #[.pointer none, .int .i64 now] w fun e w' => e = .returned (.tuple #[.int .i64 (-1), .int .i64 0, .bool false]) ∧ Below w.heap.size w w'
  take : ∀ (w : World) (i now wk ls : Int), Calls Tryz.prog 12 #[.pointer none, .int .i64 i, .int .i64 now, .int .i64 wk, .int .i64 ls] w fun e w' => e = .returned (.int .i64 8) ∧ Below w.heap.size w w'
  find : ∀ (w : World) (now wk ls : Int), Calls Tryz.prog 23 #[.pointer none, .int .i64 now, .int .i64 wk, .int .i64 ls] w fun e w' => e = .returned (.tuple #[.int .i64 (-1), .bool false]) ∧ Below w.heap.size w w'
  complete : ∀ (w : World) (i now : Int) (s : ByteArray), Calls Tryz.prog 13 #[.pointer none, .int .i64 i, .int .i64 now, .string s] w fun e w' => e = .returned (.int .i64 8) ∧ Below w.heap.size w w'
  miss : ∀ (w : World) (i now : Int), Calls Tryz.prog 14 #[.pointer none, .int .i64 i, .int .i64 now] w fun e w' => e = .returned (.int .i64 8) ∧ Below w.heap.size w w'
  beat : ∀ (w : World) (i now : Int), Calls Tryz.prog 26 #[.pointer none, .int .i64 i, .int .i64 now] w fun e w' => e = .returned (.int .i64 8) ∧ Below w.heap.size w w'
  vote : ∀ (w : World) (i who : Int) (is : Bool), Calls Tryz.prog 24 #[.pointer none, .int .i64 i, .int .i64 who, .bool is] w fun e w' => e = .returned (.tuple #[.bool false, .int .i64 8]) ∧ Below w.heap.size w w'
  let_ : ∀ (w : World) (i now : Int), Calls Tryz.prog 25 #[.pointer none, .int .i64 i, .int .i64 now] w fun e w' => e = .returned (.tuple #[.string .empty, .int .i64 8]) ∧ Below w.heap.size w w'
  cancel : ∀ (w : World), Calls Tryz.prog 27 #[.pointer none] w fun e w' => e = .returned (.int .i64 8) ∧ Below w.heap.size w w'
  input : ∀ (w : World) (i : Int), Calls Tryz.prog 28 #[.pointer none, .int .i64 i] w fun e w' => e = .returned (.string .empty) ∧ Below w.heap.size w w'
  state : ∀ (w : World) (i : Int), Calls Tryz.prog 29 #[.pointer none, .int .i64 i] w fun e w' => e = .returned (.int .i64 (-1)) ∧ Below w.heap.size w w'
  pipe : ∀ (w : World), Calls Tryz.prog 21 #[.pointer none] w fun e w' => e = .returned (.agg #[.string .empty, .slice none 0 0]) ∧ Below w.heap.size w w'
  copy : ∀ (w : World), Calls Tryz.prog 15 #[.pointer none] w fun e w' => e = .returned (.pointer none) ∧ Below w.heap.size w w'
  write : ∀ (w : World) (P : Nat), Calls Tryz.prog 45 #[.pointer none, ptrV P] w fun e w' => e = .returned (.tuple #[]) ∧ Below w.heap.size w w'
section
variable {A : RnAt} {W V : World} {M X : List Nat} {R : Nat} {z : RunP}
theorem RunOk.later (C : RunOk A) (h : A W M X R z) (hb : Below W.heap.size W V) : A V M X R z := C.keep (O := []) h (.of_below hb) (fun i hi => by cases hi)
set_option maxHeartbeats 1000000 in
set_option maxRecDepth 100000 in
/-- The law's text of a run. -/
theorem rtext_is (C : RunOk A) (h : A W M X R z) (hz : RunOf z) (hV : VarsAt W) : Calls Tryz.prog 17 #[ptrV R] W fun e W' => e = .returned (.string (textR z)) ∧ Below W.heap.size W W' := by
  have hal := (Below.refl W.heap.size W).alloc (Nat.le_refl _) (.cells #[.pointer none, .int .i64 0] 88)
  have HA := Lib.hid (C.later h hal)
  have HC := Lib.hid C
  have HZ := Lib.hid hz
  have HLO := Lib.hid (C.low h)
  have HW := Lib.hid (show WrB W (W.alloc (.cells #[.pointer none, .int .i64 0] 88)) (W.heap.size + 1) W.heap.size .empty from ⟨_, WrV.zero hV, fun i hi => by rw [List.mem_singleton] at hi; subst hi; exact ⟨Nat.le_refl _, Nat.lt_succ_self _⟩⟩)
  have HB := Lib.hid hal
  have HS := Lib.hid (show W.heap.size + 1 ≤ (W.alloc (.cells #[.pointer none, .int .i64 0] 88)).heap.size from by rw [World.size_alloc]; exact Nat.le_refl _)
  clear h C hz hV hal
  go_enter Tryz.func17, Tryz.ntmps17
  go_upto_region 2 with fail
  generalize hW1 : (W.alloc (.cells #[.pointer none, .int .i64 0] 88)) = W1 at *
  clear hW1
  go_wp2_with fail
  refine (HC.out.write HA.out HZ.out HW.out HB.out HS.out (fun i hi => .inl (HLO.out i hi)) (by decide)).mono ?_
  rintro e w2 ⟨rfl, hw2, hb2, _⟩
  have HW2 := Lib.hid hw2
  have HB2 := Lib.hid hb2
  clear hw2 hb2
  go_wp2_with fail
  refine HW2.out.str.mono ?_
  rintro e w3 ⟨rfl, hb3⟩
  have HB3 := Lib.hid (below_step HB2.out hb3)
  clear hb3
  go_wp2_with fail
  go_ret
  exact ⟨rfl, HB3.out⟩
end
end Go.Proofs.YtfjaibaidpbppaaGreatDoor

namespace Go.Proofs.YtfjaibaidpbppaaGreatDoor
open Go.RowKit
open Go.Maps (Keyed IsMap atKey_put_same atKey_put_other isMap_empty string_keyed has has_put_same has_put_other)

abbrev keyS (s : ByteArray) : Lit := .string s.data.toList
theorem keyS_inj {s t : ByteArray} : keyS s = keyS t ↔ s = t := by
  constructor
  · intro h
    have h1 : s.data.toList = t.data.toList := by injection h
    exact ByteArray.ext (Array.toList_inj.1 h1)
  · rintro rfl; rfl
theorem key_of {s : ByteArray} (hs : s.size ≤ 1000000) : keyOf Tryz.prog 9 (.string s) = some (keyS s) := by
  simp [keyOf, Tryz.underlying9, mapKey]
  unfold maxLen
  omega
theorem zeroU (w : World) : (zeroValue 150).run Tryz.prog w = .ok (.agg #[]) w := by kernel_rfl
theorem zeroN (w : World) : (zeroValue 3).run Tryz.prog w = .ok (.int .i64 0) w := by kernel_rfl
theorem key_S : Keyed Tryz.prog 9 := string_keyed Tryz.underlying9

/-- Block b is a set of at most q texts: those of l. -/
def SetIs (w : World) (b q : Nat) (l : List ByteArray) : Prop :=
  ∃ D : DataW Unit, w.ownsMap Tryz.prog 9 unitElem b q D ∧ IsMap D ∧ ∀ s : ByteArray, has D (keyS s) = memB s l
theorem SetIs.made (w : World) : SetIs (w.alloc (.map #[] 0)) w.heap.size 0 [] :=
  ⟨.map [], World.ownsMap_made w _ _ _, isMap_empty, fun _ => rfl⟩
section
variable {w w' : World} {b q : Nat} {l : List ByteArray}
theorem SetIs.block (h : SetIs w b q l) (hb : w'.heap[b]? = w.heap[b]?) : SetIs w' b q l := by
  obtain ⟨D, ⟨es, clock, h1, h2⟩, h3, h4⟩ := h
  exact ⟨D, ⟨es, clock, by rw [hb]; exact h1, h2⟩, h3, h4⟩
theorem SetIs.low (h : SetIs w b q l) : b < w.heap.size := by
  obtain ⟨D, ⟨es, clock, h1, h2⟩, h3, h4⟩ := h
  exact (Array.getElem?_eq_some_iff.1 h1).1
theorem SetIs.later (h : SetIs w b q l) (hb : Below w.heap.size w w') : SetIs w' b q l := h.block (hb.block b h.low)
theorem SetIs.apart {bad : Nat → Prop} (h : SetIs w b q l) (hb : Apart bad w w') (hn : ¬ bad b) : SetIs w' b q l := h.block (hb.block b h.low hn)
theorem SetIs.put {D : DataW Unit} {s : ByteArray} (h2 : IsMap D) (h3 : ∀ s : ByteArray, has D (keyS s) = memB s l) (h : w'.ownsMap Tryz.prog 9 unitElem b (q + 1) (D.put (keyS s) (.agg []))) : SetIs w' b (q + 1) (l ++ [s]) := by
  refine ⟨_, h, h2.put _ _, fun t => ?_⟩
  by_cases hk : t = s
  · subst hk
    rw [has_put_same h2 (show WideAt.IsKeyLit (keyS t) from True.intro)]
    symm
    rw [memB_iff]
    simp
  · rw [has_put_other (fun e => hk (keyS_inj.1 e)), h3 t, Bool.eq_iff_iff, memB_iff, memB_iff]
    simp [hk]
end
theorem Apart.of_below {bad : Nat → Prop} {w w' : World} (h : Below w.heap.size w w') : Apart bad w w' := ⟨h.os, h.tape, h.output, h.size, fun b hl _ => h.block b hl⟩
theorem Apart.of_grown {bad : Nat → Prop} {w w' : World} {r : Nat} (h : w.grownBy w' (some r)) (hb : bad r) : Apart bad w w' := ⟨h.os, h.tape, h.output, h.size, fun b hl hn => h.block b hl (fun e => hn (by injection e with e; rw [e]; exact hb))⟩
section
variable {w : World} {b q : Nat} {l : List ByteArray}
set_option maxHeartbeats 1000000 in
set_option maxRecDepth 100000 in
theorem has_is (h : SetIs w b q l) (s : ByteArray) (hs : s.size ≤ 1000000) : Calls Tryz.prog 104 #[.map (some b), .string s] w fun e w' => e = .returned (.bool (memB s l)) ∧ Below w.heap.size w w' := by
  obtain ⟨D, hown, hm, hh⟩ := h
  have HO := Lib.hid hown
  rw [← hh s]
  clear hown hm hh
  go_enter Tryz.func104, Tryz.ntmps104
  go_wp2_with (at_lookup; refine wpList_lookup_own_unit _ rfl _ _ 134 rfl 9 150 key_S Tryz.underlying134 (zeroU _) b q D rfl HO.out _ _ rfl (key_of hs) ?_)
  go_ret
  exact ⟨rfl, (Below.refl _ _).alloc (Nat.le_refl _) _⟩
theorem add_is (h : SetIs w b q l) (hq : q < 1000000) (s : ByteArray) (hs : s.size ≤ 1000000) : Calls Tryz.prog 86 #[.map (some b), .string s] w fun e w' => e = .returned (.bool (!memB s l)) ∧ Apart (fun i => i = b) w w' ∧ SetIs w' b (q + 1) (if memB s l then l else l ++ [s]) := by
  have HS := Lib.hid h
  have hA := has_is h s hs
  clear h
  obtain ⟨m, hmm⟩ : ∃ m, m = memB s l := ⟨_, rfl⟩
  rw [← hmm] at hA ⊢
  have HA := Lib.hid hA
  clear hA hmm
  go_enter Tryz.func86, Tryz.ntmps86
  go_wp2_with fail
  refine HA.out.mono ?_
  rintro e w1 ⟨rfl, hb1⟩
  have HB1 := Lib.hid hb1
  have hs1 := HS.out.later hb1
  obtain ⟨D, hown, hm, hh⟩ := id hs1
  have HO := Lib.hid hown
  have HM := Lib.hid hm
  have HH := Lib.hid hh
  have HS1 := Lib.hid hs1
  clear hown hm hh hs1 hb1
  cases m with
  | true =>
    go_wp2_with fail
    go_ret
    refine ⟨rfl, Apart.of_below HB1.out, ?_⟩
    obtain ⟨D, ⟨es, clock, h1, h2, h3, h4⟩, h5, h6⟩ := HS1.out
    exact ⟨D, ⟨es, clock, h1, h2, by omega, h4⟩, h5, h6⟩
  | false =>
    go_wp2_with (at_mapUpdate; refine wpList_mapUpdate_own _ rfl _ _ _ 134 rfl 9 150 key_S Tryz.underlying134 unitElem b q D rfl HO.out (by unfold maxLen; omega) _ _ (keyS s) rfl rfl (key_of hs) (.agg []) [] unitElem_mk ?_; intro w2 hown2 hg2; have HO2 := Lib.hid hown2; have HG2 := Lib.hid hg2; clear hown2 hg2)
    go_ret
    exact ⟨rfl, (Apart.of_below HB1.out).trans (Apart.of_grown HG2.out rfl), SetIs.put HM.out HH.out HO2.out⟩
end
theorem within_is (w : World) (n lo hi : Int) (r : Bool) (hr : r = decide (lo ≤ n ∧ n ≤ hi)) : Calls Tryz.prog 84 #[.int .i64 n, .int .i64 lo, .int .i64 hi] w fun e w' => e = .returned (.bool r) ∧ w = w' := by
  by_cases h1 : lo ≤ n
  · by_cases h2 : n ≤ hi
    · obtain rfl : r = true := by rw [hr]; exact decide_eq_true ⟨h1, h2⟩
      clear hr
      go_enter Tryz.func84, Tryz.ntmps84
      go_wp2_with fail
      go_ret
      exact ⟨rfl, rfl⟩
    · obtain rfl : r = false := by rw [hr]; exact decide_eq_false (by omega)
      clear hr
      go_enter Tryz.func84, Tryz.ntmps84
      go_wp2_with fail
      go_ret
      exact ⟨rfl, rfl⟩
  · obtain rfl : r = false := by rw [hr]; exact decide_eq_false (by omega)
    clear hr
    go_enter Tryz.func84, Tryz.ntmps84
    go_wp2_with fail
    go_ret
    exact ⟨rfl, rfl⟩
theorem isgate_is (w : World) (n : ByteArray) (A : Value) (r t need lv st : Int) : Calls Tryz.prog 102 #[.agg #[.string n, A, .int .i64 r, .int .i64 t, .int .i64 need, .int .i64 lv, .int .u16 st]] w fun e w' => e = .returned (.bool (need != 0)) ∧ Below w.heap.size w w' := by
  go_enter Tryz.func102, Tryz.ntmps102
  have z := made_at w (.cells #[.string n, A, .int .i64 r, .int .i64 t, .int .i64 need, .int .i64 lv, .int .u16 st] 65)
  have z4 := cellH z 4
  simp at z4
  go_wp2_with fail
  go_ret
  exact ⟨rfl, (Below.refl _ _).alloc (Nat.le_refl _) _⟩
theorem nil_no (v : Value) (w : World) : (binOp BinOp.eql 127 .nilIface (.iface 35 v)).run Tryz.prog w = .ok (.bool false) w := by kernel_rfl
set_option maxRecDepth 100000 in
theorem is_none (w : World) (e : Int) : Calls Tryz.prog 100 #[.nilIface, .iface 35 (.int .i64 e)] w fun r w' => r = .returned (.bool false) ∧ w = w' := by
  have hE := nil_no (.int .i64 e)
  go_enter Tryz.func100, Tryz.ntmps100
  go_wp2_with fail
  go_ret
  exact ⟨rfl, rfl⟩
set_option maxHeartbeats 1000000 in
set_option maxRecDepth 100000 in
theorem isnameM_is (s : ByteArray) (w : World) : Calls Tryz.prog 83 #[.string s] w fun e w' => e = .returned (.bool (nameP s)) ∧ Below w.heap.size w w' := by
  have hN := name_is w s 0
  unfold OneOut wdV at hN
  obtain ⟨b, hb⟩ : ∃ b, b = nameP s := ⟨_, rfl⟩
  rw [← hb] at hN ⊢
  have HN := Lib.hid hN
  clear hN hb
  go_enter Tryz.func83, Tryz.ntmps83
  go_wp2_with fail
  refine HN.out.mono ?_
  cases b with
  | true =>
    rintro e w1 ⟨hb1, rfl⟩
    have HB1 := Lib.hid hb1
    clear hb1
    go_wp2_with fail
    refine (is_none _ 15).mono ?_
    rintro e w2 ⟨rfl, rfl⟩
    go_wp2_with fail
    go_ret
    exact ⟨rfl, HB1.out⟩
  | false =>
    rintro e w1 ⟨hb1, F, rfl, hF⟩
    have HB1 := Lib.hid hb1
    have HI := Lib.hid (is_fault (e := 15) hF)
    clear hb1 hF
    unfold fltV
    go_wp2_with fail
    refine HI.out.mono ?_
    rintro e w2 ⟨rfl, rfl⟩
    go_wp2_with fail
    go_ret
    exact ⟨rfl, HB1.out⟩
end Go.Proofs.YtfjaibaidpbppaaGreatDoor

namespace Go.Proofs.YtfjaibaidpbppaaGreatDoor
open Go.RowKit
open Go.Maps (Keyed IsMap atKey_put_same atKey_put_other isMap_empty int_keyed keyOf_int_mk)

theorem info_boolO : (Tryz.prog.info? 4).map (fun i => (i.zero, i.size, i.bytes)) = some (some (.bool false), 1, 1) := by kernel_rfl
theorem info_of {t : TypeId} {z : Value} {a b : Nat} (h : (Tryz.prog.info? t).map (fun i => (i.zero, i.size, i.bytes)) = some (some z, a, b)) : ∃ i, Tryz.prog.info? t = some i ∧ i.zero = some z ∧ i.size = a ∧ i.bytes = b := by
  rw [Option.map_eq_some_iff] at h
  obtain ⟨i, h1, h2⟩ := h
  simp only [Prod.mk.injEq] at h2
  exact ⟨i, h1, h2.1, h2.2.1, h2.2.2⟩
theorem lawIO : Keyed Tryz.prog 3 := int_keyed Tryz.underlying3
theorem zeroBoolO (w : World) : (zeroValue 4).run Tryz.prog w = .ok (.bool false) w := by kernel_rfl
theorem keyIO {a : Nat} (h1 : a < 64) : keyOf Tryz.prog 3 (.int .i64 a) = some (.int .i64 a) := keyOf_int_mk Tryz.underlying3 (WalkArith.wf_i64 ⟨by omega, by omega⟩)
section
variable {P : Program} {k e : TypeId} {w : World} {b n : Nat} {D : DataW Unit}
theorem plainBool_inv (he : P.underlying e = some .bool) {v : Value} {z : DataW Unit × List MemPlace} (h : plainElem P e v = some z) : ∃ x : Bool, v = .bool x ∧ z = (.lit (.bool x), []) := by
  unfold plainElem at h
  rw [he] at h
  cases v <;> simp at h
  exact ⟨_, rfl, h.symm⟩
/-- 'm[k]' at bool elements, at the operation. -/
theorem wpList_lookup_ownB (w : World) {ops : Array Oper} {rest : List Oper} {o : Oper} {a : Act} {Q : Exit → Act → World → Prop}
    (hg : o.guard = none) (m x : Operand) (t : TypeId) (hop : o.op = Op.lookup t m x false)
    (k e : TypeId) (K : Keyed P k) (ht : P.underlying t = some (.map k e)) (he : P.underlying e = some .bool) (hz : (zeroValue e).run P w = .ok (.bool false) w) (b n : Nat) (D : DataW Unit)
    (hm : a.eval m = .map (some b)) (hown : w.ownsMap P k (plainElem P e) b n D) (key : Value) (kl : Lit) (hx : a.eval x = key) (hkey : keyOf P k key = some kl)
    (hK : ∀ c : Bool, D.atKey kl (.lit (.bool false)) = .lit (.bool c) → wpList P ops Q rest (a.put o.dst (.bool c)) w) :
    wpList P ops Q (o :: rest) a w := by
  refine wpList_plain hg fun K' hK' => ?_
  obtain ⟨v, ps, hrun, hv⟩ := hown.lookup K ht hz (plainElem_bool he false) hkey
  obtain ⟨c, rfl, hc⟩ := plainBool_inv he hv
  simp only [Prod.mk.injEq] at hc
  unfold Oper.wp
  simp [execOp, hop, hm, hx, hrun, Result.andThen]
  exact hK' _ _ (hK c hc.1)
/-- 'm[k]' at bool elements, at the operation, where its guard is met. -/
theorem wpList_lookup_ownG (w : World) {ops : Array Oper} {rest : List Oper} {o : Oper} {a : Act} {Q : Exit → Act → World → Prop}
    (hg : Region.wanted o (yielded ops a.tmps) = true) (m x : Operand) (t : TypeId) (hop : o.op = Op.lookup t m x false)
    (k e : TypeId) (K : Keyed P k) (ht : P.underlying t = some (.map k e)) (he : P.underlying e = some .bool) (hz : (zeroValue e).run P w = .ok (.bool false) w) (b n : Nat) (D : DataW Unit)
    (hm : a.eval m = .map (some b)) (hown : w.ownsMap P k (plainElem P e) b n D) (key : Value) (kl : Lit) (hx : a.eval x = key) (hkey : keyOf P k key = some kl)
    (hK : ∀ c : Bool, D.atKey kl (.lit (.bool false)) = .lit (.bool c) → wpList P ops Q rest (a.put o.dst (.bool c)) w) :
    wpList P ops Q (o :: rest) a w := by
  refine wpList_step fun K' hK' => ?_
  rw [hg, if_pos rfl]
  obtain ⟨v, ps, hrun, hv⟩ := hown.lookup K ht hz (plainElem_bool he false) hkey
  obtain ⟨c, rfl, hc⟩ := plainBool_inv he hv
  simp only [Prod.mk.injEq] at hc
  unfold Oper.wp
  simp [execOp, hop, hm, hx, hrun, Result.andThen]
  exact hK' _ _ (hK c hc.1)
/-- Block b is a map in which just the first q of rs stand, with true. -/
def MapOf (w : World) (P : Program) (k e : TypeId) (b : Nat) (rs : List Nat) (q : Nat) : Prop :=
  ∃ D : DataW Unit, w.ownsMap P k (plainElem P e) b q D ∧ IsMap D ∧ ∀ x : Nat, D.atKey (.int .i64 x) (.lit (.bool false)) = .lit (.bool (decide (x ∈ rs.take q)))
theorem MapOf.made (w : World) (P : Program) (k e : TypeId) (rs : List Nat) : MapOf (w.alloc (.map #[] 0)) P k e w.heap.size rs 0 :=
  ⟨.map [], World.ownsMap_made w P k _, isMap_empty, fun _ => by simp [DataW.atKey]⟩
theorem MapOf.later {rs : List Nat} {q : Nat} {w' : World} (h : MapOf w P k e b rs q) (hb : Below w.heap.size w w') : MapOf w' P k e b rs q := by
  obtain ⟨D, h1, h2, h3⟩ := h
  exact ⟨D, h1.kept (row := none) ⟨hb.os, hb.tape, hb.output, hb.size, fun i hi _ => hb.block i hi⟩ (by simp), h2, h3⟩
theorem mapOf_put {rs : List Nat} {q x : Nat} {w' : World} (h2 : IsMap D) (h3 : ∀ x : Nat, D.atKey (.int .i64 x) (.lit (.bool false)) = .lit (.bool (decide (x ∈ rs.take q)))) (hx : rs[q]? = some x)
    (h : w'.ownsMap P k (plainElem P e) b (q + 1) (D.put (.int .i64 x) (.lit (.bool true)))) : MapOf w' P k e b rs (q + 1) := by
  refine ⟨_, h, h2.put _ _, fun y => ?_⟩
  rw [List.take_add_one, hx]
  by_cases hk : y = x
  · subst hk
    rw [atKey_put_same h2 (show WideAt.IsKeyLit (.int .i64 (y : Int)) from True.intro) _ _]
    simp
  · rw [atKey_put_other (by intro e; injection e with _ e; omega), h3]
    simp [hk]
theorem cell_mapO {w' : World} {a : Addr} {v : Value} {R : Value → Option (DataW Unit × List MemPlace)} (hown : w.ownsMap P k R b n D) (hg : w.grownBy w' (some b)) (h : w.cell? a = some v) : w'.cell? a = some v := by
  refine hg.cell h (fun e => ?_)
  injection e with e
  obtain ⟨es, clock, hb, _⟩ := hown
  rw [← e] at hb
  simp [World.cell?, hb] at h
theorem NatsAt.keep {w' : World} {A : Option Addr} {l : List Nat} (h : NatsAt w A l) (hk : ∀ a v, w.cell? a = some v → w'.cell? a = some v) : NatsAt w' A l := fun hn => by
  obtain ⟨ad, e, hc⟩ := h hn
  exact ⟨ad, e, fun i n hi => hk _ _ (hc i n hi)⟩
/-- A row of truths of the call's own, as an argument. -/
theorem bools_of_own {base : Nat} {t : TypeId} {v : Value} {ds : List Bool} (h : w.ownsRow base t 1 v ds.length (ds.map Value.bool)) (h0 : 0 < ds.length) :
    ∃ g cap, v = .slice (some ⟨g, 0, none⟩) ds.length cap ∧ ds.length ≤ cap ∧ base ≤ g ∧ BoolsAt w (some ⟨g, 0, none⟩) ds := by
  obtain ⟨hl, ⟨_, e0⟩ | ⟨g, cap, cur, rfl, hb, hg, hn, hm, hs, ht⟩⟩ := h
  · omega
  · refine ⟨g, cap, rfl, hn, hb, fun _ => ⟨_, rfl, fun i x hi => ?_⟩⟩
    have hi1 := (List.getElem?_eq_some_iff.1 hi).1
    have h1 : (cur.toList.take (ds.length * 1))[i]? = some (.bool x) := by rw [ht, List.getElem?_map, hi]; rfl
    rw [List.getElem?_take_of_lt (by omega)] at h1
    have h2 : cur[i]? = some (.bool x) := by simpa using h1
    have ha : (⟨g, 0, none⟩ : Addr).add i = ⟨g, i, none⟩ := by unfold Addr.add; split <;> simp_all
    rw [ha]
    simp [World.cell?, hg, h2]
end
end Go.Proofs.YtfjaibaidpbppaaGreatDoor
