/-
  What label's small functions (Right, Join, Meet, Leq, Less, Off, Over) answer, whatever they are given, and that they leave all memory that was there as it was. No conditions. Plain words: the first part of a text and what stands behind it, by the first separator. No program is named here. A region that draws its order, of which a chain of operations (calls that write, say) is left, and a variable's making, which may come up anywhere among them: each of the chain is walked once. No program is named here.
-/
import Derived.Test.YtfjaibaidpbppaaGreatDoorLabelP
import Derived.Test.YtfjaibaidpbppaaGreatDoorCodBa
import Derived.WalkKit
import Derived.WalkSpells
import Derived.WalkLawsBesides
import Derived.Lib.Hide
import Derived.Test.YtfjaibaidpbppaaGreatDoorLexS
import Derived.Lib.IndexLaws
import Derived.Test.YtfjaibaidpbppaaGreatDoorFirst
import Derived.Test.YtfjaibaidpbppaaGreatDoorCodX
namespace Go.Proofs.YtfjaibaidpbppaaGreatDoor
open Go.RowKit

theorem bcell {W w1 : World} (hb : Below W.heap.size W w1) : (∀ b o, b < W.heap.size → w1.cell? ⟨b, o, none⟩ = W.cell? ⟨b, o, none⟩) ∧ (∀ b o, b < W.heap.size → w1.frozen? ⟨b, o, none⟩ = W.frozen? ⟨b, o, none⟩) :=
  ⟨fun b o h => hb.cell (p := ⟨b, o, none⟩) h, fun b o h => hb.frozen (p := ⟨b, o, none⟩) h⟩

/-- Two labels held against each other. -/
@[go_sem ↓] theorem eqLab (a b c d : Int) (w : World) : (Op.equalIn 10000 63 (.agg #[.int .i64 a, .int .u16 b]) (.agg #[.int .i64 c, .int .u16 d])).run Tryz.prog w = .ok (sameB a b c d) w := by
  have hS : Tryz.prog.underlying 63 = some (.struct (Tryz.prog.fieldsOf 63)) := by kernel_rfl
  rw [show (10000 : Nat) = 9999 + 1 from rfl, run_equalIn_agg w 9999 63 _ _ hS (by kernel_rfl)]
  have e : (Tryz.prog.fieldsOf 63).toList = (Tryz.prog.fieldsOf 62).toList := by kernel_rfl
  simp only [Program.fieldsOf, Tryz.underlying63]
  go_simp
  unfold sameB
  by_cases h1 : a = c <;> by_cases h2 : b = d <;> simp [h1, h2]

set_option maxHeartbeats 400000 in
set_option maxRecDepth 100000 in
theorem right_is (l s : Int) (r : Bool) (hr : rightB l = r) (w : World) :
    Calls Tryz.prog 103 #[.agg #[.int .i64 l, .int .u16 s]] w fun e w' => e = .returned (.bool r) ∧ Below w.heap.size w w' := by
  have H := Lib.hid hr
  clear hr
  go_enter Tryz.func103, Tryz.ntmps103
  go_wp2
  all_goals
    go_ret
    exact ⟨ret_bool (by rw [← H.out]; simp [rightB]; try omega), (Below.refl _ _).alloc (Nat.le_refl _) _⟩

set_option maxHeartbeats 400000 in
set_option maxRecDepth 100000 in
theorem right_exact (l s : Int) (r : Bool) (hr : rightB l = r) (w : World) :
    Calls Tryz.prog 103 #[.agg #[.int .i64 l, .int .u16 s]] w fun e w' => e = .returned (.bool r) ∧ w.alloc (.cells #[.int .i64 l, .int .u16 s] 63) = w' := by
  have H := Lib.hid hr
  clear hr
  go_enter Tryz.func103, Tryz.ntmps103
  go_wp2
  all_goals
    go_ret
    exact ⟨ret_bool (by rw [← H.out]; simp [rightB]; try omega), rfl⟩

set_option maxHeartbeats 400000 in
set_option maxRecDepth 100000 in
theorem refright_is (l s : Int) (r : Bool) (hr : rightB l = r) (w : World) :
    Calls Tryz.prog 60 #[.agg #[.int .i64 l, .int .u16 s]] w fun e w' => e = .returned (.bool r) ∧ Below w.heap.size w w' := by
  have H := Lib.hid hr
  clear hr
  go_enter Tryz.func60, Tryz.ntmps60
  go_wp2
  all_goals
    go_ret
    exact ⟨ret_bool (by rw [← H.out]; simp [rightB]; try omega), (Below.refl _ _).alloc (Nat.le_refl _) _⟩

end Go.Proofs.YtfjaibaidpbppaaGreatDoor

namespace Go.Proofs.YtfjaibaidpbppaaGreatDoor

section
variable {c : UInt8} {s : ByteArray} {q o : Nat}
theorem part_last (h : Lib.indexByte (bl s) c = -1) : (partsL c (bl s) q).map mkW = [⟨s, q⟩] := by
  rw [partsL_none _ _ (fun b hb e => by
    subst e
    obtain ⟨i, hi, he⟩ := List.mem_iff_getElem.1 hb
    exact Lib.indexByte_none h i (by rw [List.getElem?_eq_getElem hi, he]))]
  show [mkW (bl s, q)] = _
  unfold mkW
  rw [ofL_bl]
theorem at_byte (h : Lib.indexByte (bl s) c = o) : o < (bl s).length ∧ bl s = (bl s).take o ++ c :: (bl s).drop (o + 1) ∧ ∀ d ∈ (bl s).take o, d ≠ c := by
  obtain ⟨h1, h2⟩ := Lib.indexByte_some h
  obtain ⟨hl, h3⟩ := List.getElem?_eq_some_iff.1 h1
  refine ⟨hl, ?_, ?_⟩
  · conv => lhs; rw [← List.take_append_drop o (bl s)]
    rw [List.drop_eq_getElem_cons hl, h3]
  · intro d hd e
    subst e
    obtain ⟨i, hi, he⟩ := List.mem_iff_getElem.1 hd
    rw [List.length_take] at hi
    rw [List.getElem_take] at he
    exact h2 i (by omega) (by rw [List.getElem?_eq_getElem (by omega), he])
theorem part_next (h : Lib.indexByte (bl s) c = o) : (partsL c (bl s) q).map mkW = ⟨s.extract 0 o, q⟩ :: (partsL c (bl (s.extract (o + 1) s.size)) (q + o + 1)).map mkW := by
  obtain ⟨hl, hs, hd⟩ := at_byte h
  have e1 : s.extract 0 o = ofL ((bl s).take o) := by
    apply bl_inj
    rw [bl_extract, bl_ofL, List.drop_zero]
  have e2 : bl (s.extract (o + 1) s.size) = (bl s).drop (o + 1) := by rw [bl_extract, ← bl_len, List.take_length]
  rw [e1, e2]
  conv => lhs; rw [hs, partsL_at _ _ _ hd]
  rw [List.length_take, Nat.min_eq_left (Nat.le_of_lt hl)]
  rfl
theorem byte_low (h : Lib.indexByte (bl s) c = o) : o < s.size := by
  have := (at_byte h).1
  rw [bl_len] at this
  exact this
theorem byte_nat (h : Lib.indexByte (bl s) c ≠ -1) : ∃ o : Nat, Lib.indexByte (bl s) c = o := by
  have := Lib.indexByte_ge (bl s) c
  exact ⟨(Lib.indexByte (bl s) c).toNat, by omega⟩
end
/-- Parts lie in the text. -/
theorem parts_in {c : UInt8} : ∀ (l : List UInt8) (p : Nat) (x : List UInt8 × Nat), x ∈ partsL c l p → p ≤ x.2 ∧ x.2 + x.1.length ≤ p + l.length
  | [], p, x, h => by
    obtain rfl : x = ([], p) := by simpa [partsL] using h
    simp
  | b :: l, p, x, h => by
    obtain ⟨y, r, e⟩ := partsL_head c l (p + 1)
    have ih := fun z hz => parts_in (c := c) l (p + 1) z hz
    rw [e] at ih
    by_cases hb : b = c
    · subst hb
      rw [partsL_same, e] at h
      rcases List.mem_cons.1 h with rfl | h
      · simp
      · have := ih x h
        simp
        omega
    · rw [partsL_other hb e] at h
      rcases List.mem_cons.1 h with rfl | h
      · have := ih _ (List.mem_cons_self ..)
        simp at this ⊢
        omega
      · have := ih x (List.mem_cons_of_mem _ h)
        simp
        omega
theorem parts_few {c : UInt8} : ∀ (l : List UInt8) (p : Nat), (partsL c l p).length ≤ l.length + 1
  | [], p => by simp [partsL]
  | b :: l, p => by
    obtain ⟨y, r, e⟩ := partsL_head c l (p + 1)
    have ih := parts_few (c := c) l (p + 1)
    rw [e] at ih
    by_cases hb : b = c
    · subst hb
      rw [partsL_same, e]
      simp at ih ⊢
      omega
    · rw [partsL_other hb e]
      simp at ih ⊢
      omega
end Go.Proofs.YtfjaibaidpbppaaGreatDoor

namespace Go.Proofs.YtfjaibaidpbppaaGreatDoor
open Go.RowKit

section
variable {P : Program} {ops : Array Oper} {md : Region.Mode} {Q : Exit → Act → World → Prop} {S : World → Prop}

theorem put_here {a : Act} {d : Tmp} {u : Value} (h : d < a.tmps.size) : (a.put (some d) u).eval (.tmp d) = u := by simp [Act.put, Act.eval, h]

/-- One behind another, with i0 ready all along. -/
def chainB (md : Region.Mode) (ops : Array Oper) (i0 : Nat) : List Nat → Array Bool → Bool
  | [], L => Region.ready md ops L == [i0]
  | i :: l, L => (i != i0) && (Region.ready md ops L).contains i0 && ((Region.ready md ops L).all fun x => x == i || x == i0) && (Region.ready md ops (L.setIfInBounds i0 true) == [i]) && chainB md ops i0 l (L.setIfInBounds i true)

/-- What one of the chain does: J goes on, and what was made from N on stays. -/
def Went (N d : Nat) (ob : Obj) (S : World → Prop) (J : Act → World → Prop) (a : Act) (W : World) (a' : Act) (W' : World) : Prop :=
  S W' ∧ J a' W' ∧ (∀ g, N ≤ g → W.heap[g]? = some ob → W'.heap[g]? = some ob) ∧ a'.eval (.tmp d) = a.eval (.tmp d)

theorem new_runs {i0 d : Nat} {o0 : Oper} {T : TypeId} {ob : Obj} (h0 : ops[i0]? = some o0) (hop : o0.op = .alloc T) (hd : o0.dst = some d) (hg : o0.guard = none)
    (hrun : ∀ W, (Instr.alloc T true (.tuple #[])).run P W = .ok (.pointer (some ⟨W.heap.size, 0, none⟩)) (W.alloc ob)) {K : Act → World → Prop} {a : Act} {W : World}
    (h : K (a.put (some d) (.pointer (some ⟨W.heap.size, 0, none⟩))) (W.alloc ob)) : wpOp P ops Q i0 K a W := by
  unfold wpOp
  rw [h0]
  simp only
  rw [if_pos (by simp [Region.wanted, hg])]
  left
  unfold Oper.wp
  rw [← hd] at h
  simp [execOp, hop, hrun, Result.andThen]
  exact h

theorem chain_new {i0 d N : Nat} {o0 : Oper} {T : TypeId} {ob : Obj} (m : Nat) (h0 : ops[i0]? = some o0) (hop : o0.op = .alloc T) (hd : o0.dst = some d) (hg : o0.guard = none)
    (hrun : ∀ W, (Instr.alloc T true (.tuple #[])).run P W = .ok (.pointer (some ⟨W.heap.size, 0, none⟩)) (W.alloc ob))
    (J : Nat → Act → World → Prop) (hJ : ∀ k a W, J k a W → J k (a.put (some d) (.pointer (some ⟨W.heap.size, 0, none⟩))) (W.alloc ob)) (hN : ∀ k a W, J k a W → N ≤ W.heap.size ∧ d < a.tmps.size) (hS : ∀ W, S W → S (W.alloc ob)) :
    ∀ (l : List Nat) (k : Nat) (L : Array Bool), chainB md ops i0 l L = true →
      (∀ j i, l[j]? = some i → ∀ a W, J (k + j) a W → S W → wpOp P ops Q i (Went N d ob S (J (k + j + 1)) a W) a W) →
      (∀ a W g, J (k + l.length) a W → S W → N ≤ g → W.heap[g]? = some ob → a.eval (.tmp d) = .pointer (some ⟨g, 0, none⟩) → wpAnyH P md ops Q S m ((l.foldl (fun L i => L.setIfInBounds i true) L).setIfInBounds i0 true) a W) →
      (∀ a W g, J k a W → S W → N ≤ g → W.heap[g]? = some ob → a.eval (.tmp d) = .pointer (some ⟨g, 0, none⟩) → wpAnyH P md ops Q S (l.length + m) (L.setIfInBounds i0 true) a W) ∧
      (∀ a W, J k a W → S W → wpAnyH P md ops Q S (l.length + m + 1) L a W) := by
  intro l
  induction l with
  | nil =>
    intro k L hB _ hend
    have h1 : ∀ a W g, J k a W → S W → N ≤ g → W.heap[g]? = some ob → a.eval (.tmp d) = .pointer (some ⟨g, 0, none⟩) → wpAnyH P md ops Q S (0 + m) (L.setIfInBounds i0 true) a W := fun a W g hj hs hn hw he => by
      rw [Nat.zero_add]; exact hend a W g hj hs hn hw he
    refine ⟨h1, fun a W hj hs => ?_⟩
    have hr : Region.ready md ops L = [i0] := by simpa [chainB] using hB
    refine ⟨fun h => (by rw [hr] at h; cases h), fun i hi => ?_⟩
    rw [hr] at hi
    obtain rfl : i = i0 := by simpa using hi
    have hk := hN _ _ _ hj
    exact new_runs h0 hop hd hg hrun ⟨hS _ hs, h1 _ _ W.heap.size (hJ _ _ _ hj) (hS _ hs) hk.1 (by show (W.heap.push ob)[W.heap.size]? = some ob; simp) (put_here hk.2)⟩
  | cons i l ih =>
    intro k L hB hst hend
    simp only [chainB, Bool.and_eq_true, bne_iff_ne, ne_eq, beq_iff_eq] at hB
    obtain ⟨⟨⟨⟨hne, hc⟩, hall⟩, hr1⟩, hB'⟩ := hB
    obtain ⟨ih1, ih2⟩ := ih (k + 1) (L.setIfInBounds i true) hB' (fun j x hx a W hj hs => by
        have := hst (j + 1) x (by simpa using hx) a W (by rw [show k + (j + 1) = k + 1 + j by omega]; exact hj) hs
        rw [show k + (j + 1) + 1 = k + 1 + j + 1 by omega] at this
        exact this)
      (fun a W g hj hs hn hw he => hend a W g (by rw [show k + (i :: l).length = k + 1 + l.length by simp; omega]; exact hj) hs hn hw he)
    have h1 : ∀ a W g, J k a W → S W → N ≤ g → W.heap[g]? = some ob → a.eval (.tmp d) = .pointer (some ⟨g, 0, none⟩) → wpAnyH P md ops Q S ((i :: l).length + m) (L.setIfInBounds i0 true) a W := fun a W g hj hs hn hw he => by
      rw [show (i :: l).length + m = (l.length + m) + 1 by simp; omega]
      refine ⟨fun h => (by rw [hr1] at h; cases h), fun x hx => ?_⟩
      rw [hr1] at hx
      obtain rfl : x = i := by simpa using hx
      refine wpOp_mono (fun a' W' hw' => ?_) (hst 0 x rfl a W (by simpa using hj) hs)
      refine ⟨hw'.1, ?_⟩
      rw [Array.setIfInBounds_comm _ _ (Ne.symm hne)]
      exact ih1 a' W' g (by simpa using hw'.2.1) hw'.1 hn (hw'.2.2.1 g hn hw) (hw'.2.2.2.trans he)
    refine ⟨h1, fun a W hj hs => ?_⟩
    rw [show (i :: l).length + m + 1 = (l.length + m + 1) + 1 by simp; omega]
    refine ⟨fun h => (by rw [h] at hc; simp at hc), fun x hx => ?_⟩
    have hx' := List.all_eq_true.1 hall x hx
    simp only [Bool.or_eq_true, beq_iff_eq] at hx'
    rcases hx' with rfl | rfl
    · refine wpOp_mono (fun a' W' hw' => ?_) (hst 0 x rfl a W (by simpa using hj) hs)
      exact ⟨hw'.1, ih2 a' W' (by simpa using hw'.2.1) hw'.1⟩
    · have hk := hN _ _ _ hj
      refine new_runs h0 hop hd hg hrun ⟨hS _ hs, ?_⟩
      have := h1 _ _ W.heap.size (hJ _ _ _ hj) (hS _ hs) hk.1 (by show (W.heap.push ob)[W.heap.size]? = some ob; simp) (put_here hk.2)
      rw [show l.length + m + 1 = (i :: l).length + m by simp; omega]
      exact this
/-- THE WHOLE. -/
theorem chain_all {i0 d N : Nat} {o0 : Oper} {T : TypeId} {ob : Obj} (m : Nat) (l : List Nat) {L : Array Bool} {a : Act} {W : World} (h0 : ops[i0]? = some o0) (hop : o0.op = .alloc T) (hd : o0.dst = some d) (hg : o0.guard = none)
    (hrun : ∀ W, (Instr.alloc T true (.tuple #[])).run P W = .ok (.pointer (some ⟨W.heap.size, 0, none⟩)) (W.alloc ob)) (hB : chainB md ops i0 l L = true)
    (J : Nat → Act → World → Prop) (hj : J 0 a W) (hs : S W) (hJ : ∀ k a W, J k a W → J k (a.put (some d) (.pointer (some ⟨W.heap.size, 0, none⟩))) (W.alloc ob)) (hN : ∀ k a W, J k a W → N ≤ W.heap.size ∧ d < a.tmps.size) (hS : ∀ W, S W → S (W.alloc ob))
    (hst : ∀ j i, l[j]? = some i → ∀ a W, J j a W → S W → wpOp P ops Q i (Went N d ob S (J (j + 1)) a W) a W)
    (hend : ∀ a W g, J l.length a W → S W → N ≤ g → W.heap[g]? = some ob → a.eval (.tmp d) = .pointer (some ⟨g, 0, none⟩) → wpAnyH P md ops Q S m ((l.foldl (fun L i => L.setIfInBounds i true) L).setIfInBounds i0 true) a W) :
    wpAnyH P md ops Q S (l.length + m + 1) L a W :=
  (chain_new m h0 hop hd hg hrun J hJ hN hS l 0 L hB (fun j i h a W hj => by rw [Nat.zero_add] at hj ⊢; exact hst j i h a W hj) (fun a W g hj => hend a W g (by rw [Nat.zero_add] at hj; exact hj))).2 a W hj hs
end
end Go.Proofs.YtfjaibaidpbppaaGreatDoor
