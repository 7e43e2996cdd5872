/-
  The document's log (package lockageref05) in memory; what its Same and Append do. No conditions but how it lies, and the texts' lengths. What the document's Append (package lockageref05) does. No conditions but how the log lies, and sizes.
-/
import Derived.Test.YtbdgmddlghhkjaaSecY
import Derived.Test.YtbdgmddlghhkjaaPlgS
import Derived.Maps.AppendAt
import Derived.OneCell
namespace Go.Proofs.Ytbdgmddlghhkjaa
open Go.RowKit

def txV (L : List ByteArray) : List Value := L.map .string
/-- What an own row of texts is, as a slice. -/
theorem own_as {W : World} {base n : Nat} {v : Value} {L : List ByteArray} (h : W.ownsRow base 9 1 v n (txV L)) : ∃ A c, v = .slice A L.length c ∧ TextsAt W A L := by
  have hl := h.1
  rw [txV, List.length_map, Nat.mul_one] at hl
  rcases h.2 with ⟨rfl, e⟩ | ⟨g, cap, cur, rfl, hb, _⟩
  · exact ⟨none, 0, by rw [hl, e], fun h0 => absurd h0 (by omega)⟩
  · refine ⟨some ⟨g, 0, none⟩, cap, by rw [hl], fun _ => ⟨_, rfl, fun i t ht => ?_⟩⟩
    have hi : i < n := by have := (List.getElem?_eq_some_iff.1 ht).1; omega
    rw [Addr.add_lit, Nat.zero_add, h.cellAt _ (by omega), txV, List.getElem?_map, ht]
    rfl

/-- The document's log. -/
structure LogR where
  gen : Int
  half : Int
  bs : ByteArray
  recs : List ByteArray
  at_ : Int
/-- Only blocks of the set P may have turned; new ones may be there. -/
structure OnlyP (P : Nat → Prop) (w w' : World) : Prop where
  os : w'.os = w.os
  tape : w'.tape = w.tape
  output : w'.output = w.output
  size : w.heap.size ≤ w'.heap.size
  block : ∀ i, i < w.heap.size → ¬ P i → w'.heap[i]? = w.heap[i]?
section
variable {P : Nat → Prop} {w a b : World}
theorem OnlyP.refl : OnlyP P w w := ⟨rfl, rfl, rfl, Nat.le_refl _, fun _ _ _ => rfl⟩
theorem OnlyP.trans (h : OnlyP P w a) {Q : Nat → Prop} (k : OnlyP Q a b) (hQ : ∀ i, i < w.heap.size → Q i → P i) : OnlyP P w b :=
  ⟨k.os.trans h.os, k.tape.trans h.tape, k.output.trans h.output, Nat.le_trans h.size k.size, fun i hi hp => (k.block i (Nat.lt_of_lt_of_le hi h.size) (fun q => hp (hQ i hi q))).trans (h.block i hi hp)⟩
theorem OnlyP.of_below (h : Below w.heap.size w a) : OnlyP P w a := ⟨h.os, h.tape, h.output, h.size, fun i hi _ => h.block i hi⟩
theorem OnlyP.below (h : OnlyP P w a) {base : Nat} (hb : base ≤ w.heap.size) (hP : ∀ i, P i → base ≤ i) : Below base w a :=
  ⟨h.os, h.tape, h.output, Nat.le_trans hb h.size |> fun _ => h.size, fun i hi => h.block i (by omega) (fun p => by have := hP i p; omega)⟩
theorem OnlyP.setCell (h : OnlyP P w a) {g i : Nat} {v : Value} (hg : P g ∨ w.heap.size ≤ g) : OnlyP P w (a.setCell ⟨g, i, none⟩ v) := by
  have hs : (a.setCell ⟨g, i, none⟩ v).heap.size = a.heap.size := by simp [World.setCell]
  refine ⟨h.os, h.tape, h.output, by rw [hs]; exact h.size, fun j hj hp => (Below.heap_setCell a ⟨g, i, none⟩ v j (fun e => ?_)).trans (h.block j hj hp)⟩
  simp only at e
  subst e
  rcases hg with hg | hg
  · exact hp hg
  · omega
theorem OnlyP.alloc (h : OnlyP P w a) (o : Obj) : OnlyP P w (a.alloc o) := h.trans (Q := P) (OnlyP.of_below ((Below.refl _ _).alloc (Nat.le_refl _) o)) (fun _ _ q => q)
theorem OnlyP.grown (h : OnlyP P w a) {row : Option Nat} (hg : a.grownBy b row) (hr : ∀ g, row = some g → P g ∨ w.heap.size ≤ g) : OnlyP P w b :=
  ⟨hg.os.trans h.os, hg.tape.trans h.tape, hg.output.trans h.output, Nat.le_trans h.size hg.size, fun i hi hp => (hg.block i (Nat.lt_of_lt_of_le hi h.size) (fun e => by
    rcases hr i e.symm with q | q
    · exact hp q
    · omega)).trans (h.block i hi hp)⟩
end

/-- The document's log lies in block R; its blocks are of the set P. -/
def RLogAt (w : World) (P : Nat → Prop) (R : Nat) (L : LogR) : Prop :=
  (∀ i, P i → i < w.heap.size) ∧ P R ∧ ∃ v, w.heap[R]? = some (.cells #[.int .i64 L.gen, .int .i64 L.half, .string L.bs, v, .int .i64 L.at_] 37 (0, 0)) ∧ (∀ g, v.ownBlock = some g → P g) ∧ w.ownsRow 0 9 1 v L.recs.length (txV L.recs)
/-- Others' doings don't touch it. -/
theorem RLogAt.frame {w w' : World} {P Q : Nat → Prop} {R : Nat} {L : LogR} (h : RLogAt w P R L) (ho : OnlyP Q w w') (hd : ∀ i, P i → ¬ Q i) : RLogAt w' P R L := by
  obtain ⟨hP, hR, v, h1, h2, h3⟩ := h
  refine ⟨fun i hi => Nat.lt_of_lt_of_le (hP i hi) ho.size, hR, v, (ho.block R (hP R hR) (hd R hR)).trans h1, h2, ?_⟩
  obtain ⟨hl, h3⟩ := h3
  refine ⟨hl, h3.imp id ?_⟩
  rintro ⟨q, cap, cur, rfl, hb, hq, hx⟩
  have hPq := h2 q rfl
  exact ⟨q, cap, cur, rfl, hb, (ho.block q (hP q hPq) (hd q hPq)).trans hq, hx⟩

/-- What Same answers. -/
def sameR (L : LogR) (g : Int) (b : ByteArray) (K : List ByteArray) : Bool := decide (L.gen = g) && (decide (L.bs = b) && decide (L.recs = K))
set_option maxHeartbeats 1000000 in
set_option maxRecDepth 100000 in
theorem refsame_is {w : World} {P : Nat → Prop} {R : Nat} {L : LogR} (h : RLogAt w P R L) (g : Int) (b : ByteArray) {B : Option Addr} {c : Nat} {K : List ByteArray} (hK : TextsAt w B K) (hl : L.recs.length ≤ 1000000) :
    Calls Try.prog 13 #[.pointer (some ⟨R, 0, none⟩), .int .i64 g, .string b, .slice B K.length c] w fun e w' => e = .returned (.bool (sameR L g b K)) ∧ Below w.heap.size w w' := by
  obtain ⟨_, _, v, h1, h2, h3⟩ := h
  obtain ⟨A, c1, rfl, hA⟩ := own_as h3
  have SM := Lib.hid (same_is (c1 := c1) (c2 := c) hA hK hl)
  have z0 := cellH h1 0
  have z2 := cellH h1 2
  have z3 := cellH h1 3
  simp at z0 z2 z3
  clear h1 h2 h3 hA hK
  by_cases hg : L.gen = g
  · have hgb : (L.gen == g) = true := by simp [hg]
    by_cases hbb : L.bs = b
    · have hbt : (L.bs.toList == b.toList) = true := by rw [hbb]; simp
      have HS := Lib.hid (show sameR L g b K = decide (L.recs = K) by unfold sameR; rw [decide_eq_true hg, decide_eq_true hbb]; rfl)
      have hbp : L.bs.toList = b.toList := by rw [hbb]
      clear hg hbb
      go_enter Try.func13, Try.ntmps13
      go_wp2_with fail
      refine SM.out.mono ?_
      rintro e w1 ⟨rfl, hb1⟩
      have HB1 := Lib.hid hb1
      have HS2 := Lib.hid HS.out.symm
      clear hb1
      go_wp2_with fail
      go_ret
      exact ⟨ret_bool HS2.out, HB1.out⟩
    · have hbt : (L.bs.toList == b.toList) = false := by rw [ba_beq]; exact decide_eq_false hbb
      have hbp : ¬ L.bs.toList = b.toList := by simpa using hbt
      have HS := Lib.hid (show sameR L g b K = false by unfold sameR; rw [decide_eq_false hbb]; simp)
      clear hg hbb
      go_enter Try.func13, Try.ntmps13
      go_wp2_with fail
      go_ret
      exact ⟨ret_bool HS.out.symm, Below.refl _ _⟩
  · have hgb : (L.gen == g) = false := by simp [hg]
    have HS := Lib.hid (show sameR L g b K = false by unfold sameR; rw [decide_eq_false hg]; rfl)
    clear hg
    go_enter Try.func13, Try.ntmps13
    go_wp2_with fail
    go_ret
    exact ⟨ret_bool HS.out.symm, Below.refl _ _⟩
end Go.Proofs.Ytbdgmddlghhkjaa

namespace Go.Proofs.Ytbdgmddlghhkjaa
open Go.RowKit

/-- What Append leaves, and answers. -/
def appendR (L : LogR) (rec after : ByteArray) : LogR × Int :=
  if 2147483646 ≤ L.gen then (L, 13) else
  if 0 < L.gen ∧ L.at_ + cntN rec.size ≤ L.half then ({ L with recs := L.recs ++ [rec], at_ := L.at_ + cntN rec.size }, 0) else
  if L.half < cntN after.size then (L, 4) else (⟨L.gen + 1, L.half, after, [], cntN after.size⟩, 0)
def growP (P : Nat → Prop) (w w' : World) : Nat → Prop := fun i => (P i ∨ w.heap.size ≤ i) ∧ i < w'.heap.size

theorem RLogAt.wide {w w' : World} {P : Nat → Prop} {R : Nat} {L : LogR} (h : RLogAt w P R L) (ho : OnlyP (fun _ => False) w w') : RLogAt w' (growP P w w') R L := by
  obtain ⟨hP, hR, v, h1, h2, h3⟩ := h.frame ho (fun _ _ => id)
  have hs := ho.size
  have hw := h.1
  exact ⟨fun i hi => hi.2, ⟨.inl hR, hP R hR⟩, v, h1, fun g hg => ⟨.inl (h2 g hg), hP g (h2 g hg)⟩, h3⟩

/-- This one world. -/
structure AtW (V W : World) : Prop where
  eq : W = V
theorem info_str4 : (Try.prog.info? 9).map (fun i => (i.zero, i.size, i.bytes)) = some (some (.string ⟨#[]⟩), 1, 16) := by kernel_rfl

set_option maxHeartbeats 2000000 in
set_option maxRecDepth 100000 in
theorem refappend_is {w : World} {P : Nat → Prop} {R : Nat} {L : LogR} (h : RLogAt w P R L) (rec after : ByteArray) (hr : rec.size ≤ 100000) (ha : after.size ≤ 100000)
    (b1 : 0 ≤ L.gen) (b2 : L.gen ≤ 2147483647) (b3 : 0 ≤ L.at_) (b4 : L.at_ ≤ 100000) (b5 : 0 ≤ L.half) (b6 : L.half ≤ 100000) (b7 : L.recs.length ≤ 100000) :
    Calls Try.prog 12 #[.pointer (some ⟨R, 0, none⟩), .string rec, .string after] w fun e w' => e = .returned (.int .i64 (appendR L rec after).2) ∧ RLogAt w' (growP P w w') R (appendR L rec after).1 ∧ OnlyP P w w' := by
  have HL := Lib.hid h
  obtain ⟨hP, hPR, v, h1, h2, h3⟩ := h
  have hRs := hP R hPR
  have z0 := cellH h1 0
  have z1 := cellH h1 1
  have z3 := cellH h1 3
  have z4 := cellH h1 4
  have zf := freeH h1
  simp at z0 z1 z3 z4
  obtain ⟨L', hL'⟩ : ∃ L', L' = appendR L rec after := ⟨_, rfl⟩
  rw [← hL']
  obtain ⟨n, hn⟩ : ∃ n, n = cntN rec.size := ⟨_, rfl⟩
  obtain ⟨m, hm⟩ : ∃ m, m = cntN after.size := ⟨_, rfl⟩
  have hn1 : n ≤ 100000 := by rw [hn]; unfold cntN; split <;> omega
  have hm1 : m ≤ 100000 := by rw [hm]; unfold cntN; split <;> omega
  have C1 := Lib.hid (fun w : World => refcount_is rec.size (by omega) (by omega) w)
  have C2 := Lib.hid (fun w : World => refcount_is after.size (by omega) (by omega) w)
  rw [cntI_nat, ← hn] at C1
  rw [cntI_nat, ← hm] at C2
  unfold appendR at hL'
  rw [← hn, ← hm] at hL'
  clear hn hm
  have H1 := Lib.hid h1
  have H2 := Lib.hid h2
  have H3 := Lib.hid h3
  have HP := Lib.hid hP
  clear h1 h2 h3 hP
  by_cases hlim : 2147483646 ≤ L.gen
  · rw [if_pos hlim] at hL'
    have HE := Lib.hid hL'
    clear hL'
    go_enter Try.func12, Try.ntmps12
    go_wp2_with fail
    go_ret
    exact ⟨ret_int (by rw [HE.out]), by rw [HE.out]; exact HL.out.wide OnlyP.refl, OnlyP.refl⟩
  rw [if_neg hlim] at hL'
  by_cases hg : 0 < L.gen
  · by_cases hfit : L.at_ + n ≤ L.half
    · rw [if_pos ⟨hg, hfit⟩] at hL'
      have HE := Lib.hid hL'
      clear hL'
      go_enter Try.func12, Try.ntmps12
      go_wp2_with fail
      refine (C1.out _).mono ?_
      rintro e w1 ⟨rfl, hw1⟩
      subst hw1
      go_wp2_with fail
      refine wp_region_kept (AtW w.drew) (by kernel_rfl) (by kernel_rfl) ⟨rfl⟩ ?_
      intro hne
      have f0 : ∀ x : HeldW (AtW w.drew), x.w.cell? ⟨R, 0, none⟩ = some (.int .i64 L.gen) := fun x => by rw [x.ok.eq]; exact z0
      have f1 : ∀ x : HeldW (AtW w.drew), x.w.cell? ⟨R, 1, none⟩ = some (.int .i64 L.half) := fun x => by rw [x.ok.eq]; exact z1
      have f4 : ∀ x : HeldW (AtW w.drew), x.w.cell? ⟨R, 4, none⟩ = some (.int .i64 L.at_) := fun x => by rw [x.ok.eq]; exact z4
      repeat (go_big_quiet_step (fail))
      refine wpQuiet_nil ?_
      rintro W1 ⟨⟨_, hF⟩, rfl⟩
      obtain rfl := hF.eq
      clear f0 f1 f4 hne
      obtain ⟨A, c, hv, _⟩ := own_as H3.out
      subst hv
      obtain ⟨i0, hi0, q0, q1, q2⟩ := info_parts info_str4
      have HO := Lib.hid (show (w.alloc (.cells #[.string rec] 9)).drew.ownsRow 0 9 1 (.slice A L.recs.length c) L.recs.length (txV L.recs) from own_agree H3.out (fun q _ hq => ((Below.refl _ _).alloc (Nat.le_refl _) (.cells #[.string rec] 9)).drew.block q hq))
      have HR1 := Lib.hid (show (w.alloc (.cells #[.string rec] 9)).drew.heap[R]? = _ from later_at ((Below.refl _ _).alloc (Nat.le_refl _) (.cells #[.string rec] 9)).drew H1.out)
      have HNE := Lib.hid (show (Value.slice A L.recs.length c).ownBlock ≠ some R from fun e => by
        have h3 := H3.out
        rcases h3.2 with ⟨e1, _⟩ | ⟨q, cap, cur, e1, _, hq, _⟩
        · rw [e1] at e; simp [Value.ownBlock] at e
        · rw [e1] at e
          simp [Value.ownBlock] at e
          subst e
          have := H1.out
          rw [hq] at this
          injection this with this
          injection this with _ ht
          exact absurd ht (by decide))
      have HNW := Lib.hid (show ∀ j u, [Value.string rec][j]? = some u → (w.alloc (.cells #[.string rec] 9)).drew.cell? ((⟨w.heap.size, 0, none⟩ : Addr).add j) = some u from one_cell_new w (.string rec) 9)
      go_wp2_with (at_builtin; refine wpList_append_own_at _ rfl (.tmp 38) (.tmp 40) 35 rfl 0 9 i0 _ 1 16 Try.underlying35 hi0 q0 q1 q2 rfl (by omega) (.slice A L.recs.length c) L.recs.length (txV L.recs) rfl HO.out ⟨w.heap.size, 0, none⟩ 1 1 [.string rec] rfl rfl HNW.out (by simp [Value.oneCell']) (by unfold maxLen; omega) (by omega) (Nat.zero_le _) ?_; intro v2 w3 hown3 hg3 _ hat3; have HAT := Lib.hid hat3; clear hat3; have HGR := Lib.hid hg3; have hown3b : w3.ownsRow 0 9 1 v2 (L.recs ++ [rec]).length (txV (L.recs ++ [rec])) := (by have e : txV (L.recs ++ [rec]) = txV L.recs ++ [.string rec] := List.map_append; have e2 : (L.recs ++ [rec]).length = L.recs.length + 1 := List.length_append; rw [e, e2]; exact hown3); obtain ⟨B2, c2, hv2, _⟩ := own_as hown3b; subst hv2; have HO3 := Lib.hid hown3b; clear hown3 hown3b; have HG3 := Lib.hid hg3; have HR3 := Lib.hid (grown_at hg3 HR1.out HNE.out); clear hg3; have y3 := cellH HR3.out 3; have y4 := cellH HR3.out 4; have yf := freeH HR3.out; simp at y3 y4)
      have HR4 := Lib.hid (row_set (i := 3) (v := .slice B2 (L.recs ++ [rec]).length c2) HR3.out)
      have HR5 := Lib.hid (row_set (i := 4) (v := .int .i64 (L.at_ + ↑n)) HR4.out)
      have hvP : ∀ g, (Value.slice A L.recs.length c).ownBlock = some g → P g := H2.out
      have hat := HAT.out
      have hne2 : (Value.slice B2 (L.recs ++ [rec]).length c2).ownBlock ≠ some R := by
        rcases hat with e | e
        · rw [e]; exact HNE.out
        · rw [e]
          intro k
          injection k with k
          have : w.heap.size < (w.alloc (.cells #[.string rec] 9)).drew.heap.size := by simp
          omega
      have hall : OnlyP P w ((w3.setCell ⟨R, 3, none⟩ (Value.slice B2 (L.recs ++ [rec]).length c2)).setCell ⟨R, 4, none⟩ (.int .i64 (L.at_ + ↑n))) := by
        have o1 : OnlyP P w (w.alloc (.cells #[.string rec] 9)).drew := .of_below ((Below.refl _ _).alloc (Nat.le_refl _) (.cells #[.string rec] 9)).drew
        have o3 : OnlyP P w w3 := o1.grown HGR.out (fun g hg => .inl (hvP g hg))
        exact (o3.setCell (.inl hPR)).setCell (.inl hPR)
      have hown5 : ((w3.setCell ⟨R, 3, none⟩ (Value.slice B2 (L.recs ++ [rec]).length c2)).setCell ⟨R, 4, none⟩ (.int .i64 (L.at_ + ↑n))).ownsRow 0 9 1 (Value.slice B2 (L.recs ++ [rec]).length c2) (L.recs ++ [rec]).length (txV (L.recs ++ [rec])) :=
        ownsRow_setCell_other (ownsRow_setCell_other HO3.out hne2 _) hne2 _
      have hsz : ∀ g, (Value.slice B2 (L.recs ++ [rec]).length c2).ownBlock = some g → g < ((w3.setCell ⟨R, 3, none⟩ (Value.slice B2 (L.recs ++ [rec]).length c2)).setCell ⟨R, 4, none⟩ (.int .i64 (L.at_ + ↑n))).heap.size := by
        intro g hg
        rcases hown5.2 with ⟨e, _⟩ | ⟨q, cap, cur, e, _, hq, _⟩
        · rw [e] at hg; simp [Value.ownBlock] at hg
        · rw [e] at hg
          simp [Value.ownBlock] at hg
          subst hg
          exact (Array.getElem?_eq_some_iff.1 hq).1
      have e2 : (L.recs ++ [rec]).length = L.recs.length + 1 := by simp
      go_ret
      rw [← e2]
      refine ⟨ret_int (by rw [HE.out]), ?_, hall⟩
      rw [HE.out]
      refine ⟨fun i hi => hi.2, ⟨.inl hPR, Nat.lt_of_lt_of_le hRs hall.size⟩, _, HR5.out, fun g hg => ⟨?_, hsz g hg⟩, hown5⟩
      rcases hat with e | e
      · exact .inl (hvP g (e.symm.trans hg))
      · rw [e] at hg
        injection hg with hg
        refine .inr ?_
        rw [← hg]
        simp
    · rw [if_neg (fun k => hfit k.2)] at hL'
      have hfit2 : L.half < L.at_ + n := by omega
      clear hfit
      go_enter Try.func12, Try.ntmps12
      go_wp2_with fail
      refine (C1.out _).mono ?_
      rintro e w1 ⟨rfl, hw1⟩
      subst hw1
      go_wp2_with fail
      refine wp_region_kept (AtW w.drew) (by kernel_rfl) (by kernel_rfl) ⟨rfl⟩ ?_
      intro hne
      have f0 : ∀ x : HeldW (AtW w.drew), x.w.cell? ⟨R, 0, none⟩ = some (.int .i64 L.gen) := fun x => by rw [x.ok.eq]; exact z0
      have f1 : ∀ x : HeldW (AtW w.drew), x.w.cell? ⟨R, 1, none⟩ = some (.int .i64 L.half) := fun x => by rw [x.ok.eq]; exact z1
      have f4 : ∀ x : HeldW (AtW w.drew), x.w.cell? ⟨R, 4, none⟩ = some (.int .i64 L.at_) := fun x => by rw [x.ok.eq]; exact z4
      repeat (go_big_quiet_step (fail))
      refine wpQuiet_nil ?_
      rintro W1 ⟨⟨_, hF⟩, rfl⟩
      obtain rfl := hF.eq
      clear f0 f1 f4 hne
      have HD := Lib.hid (show w.drew.heap[R]? = _ from H1.out)
      go_wp2_with fail
      refine (C2.out _).mono ?_
      rintro e w1 ⟨rfl, hw1⟩
      subst hw1
      have o1 : OnlyP (fun _ => False) w w.drew := ⟨rfl, rfl, rfl, Nat.le_refl _, fun _ _ _ => rfl⟩
      have o2 := Lib.hid (show OnlyP P w w.drew from ⟨rfl, rfl, rfl, Nat.le_refl _, fun _ _ _ => rfl⟩)
      have HO1 := Lib.hid o1
      clear o1 z0 z1 z3 z4 zf
      generalize hV : w.drew = V at HD o2 HO1 ⊢
      clear hV
      have d0 := cellH HD.out 0
      have d1 := cellH HD.out 1
      have d2 := cellH HD.out 2
      have d3 := cellH HD.out 3
      have d4 := cellH HD.out 4
      have df := freeH HD.out
      simp at d0 d1 d2 d3 d4
      by_cases hbig : L.half < m
      · rw [if_pos hbig] at hL'
        have HE := Lib.hid hL'
        clear hL'
        go_wp2_with fail
        go_ret
        exact ⟨ret_int (by rw [HE.out]), by rw [HE.out]; exact HL.out.wide HO1.out, o2.out⟩
      · rw [if_neg hbig] at hL'
        have HE := Lib.hid hL'
        clear hL'
        have hm2 : (m : Int) ≤ L.half := by omega
        clear hbig
        have K0 := Lib.hid (row_set (i := 0) (v := .int .i64 (L.gen + 1)) HD.out)
        have K2 := Lib.hid (row_set (i := 2) (v := .string after) K0.out)
        have K3 := Lib.hid (row_set (i := 3) (v := .slice none 0 0) K2.out)
        have K4 := Lib.hid (row_set (i := 4) (v := .int .i64 m) K3.out)
        go_wp2_with fail
        go_ret
        have hall : OnlyP P w ((((V.setCell ⟨R, 0, none⟩ (.int .i64 (L.gen + 1))).setCell ⟨R, 2, none⟩ (.string after)).setCell ⟨R, 3, none⟩ (.slice none 0 0)).setCell ⟨R, 4, none⟩ (.int .i64 m)) := by
          exact (((o2.out.setCell (.inl hPR)).setCell (.inl hPR)).setCell (.inl hPR)).setCell (.inl hPR)
        refine ⟨ret_int (by rw [HE.out]), ?_, hall⟩
        rw [HE.out]
        exact ⟨fun i hi => hi.2, ⟨.inl hPR, Nat.lt_of_lt_of_le hRs hall.size⟩, _, K4.out, fun g hg => by simp [Value.ownBlock] at hg, World.ownsRow_nil _ _ _ _⟩
  · rw [if_neg (fun k => hg k.1)] at hL'
    have hg0 : L.gen = 0 := by omega
    go_enter Try.func12, Try.ntmps12
    go_wp2_with fail
    refine (C1.out _).mono ?_
    rintro e w1 ⟨rfl, hw1⟩
    subst hw1
    go_wp2_with fail
    refine wp_region_kept (AtW w.drew) (by kernel_rfl) (by kernel_rfl) ⟨rfl⟩ ?_
    intro hne
    have f0 : ∀ x : HeldW (AtW w.drew), x.w.cell? ⟨R, 0, none⟩ = some (.int .i64 L.gen) := fun x => by rw [x.ok.eq]; exact z0
    have f1 : ∀ x : HeldW (AtW w.drew), x.w.cell? ⟨R, 1, none⟩ = some (.int .i64 L.half) := fun x => by rw [x.ok.eq]; exact z1
    have f4 : ∀ x : HeldW (AtW w.drew), x.w.cell? ⟨R, 4, none⟩ = some (.int .i64 L.at_) := fun x => by rw [x.ok.eq]; exact z4
    repeat (go_big_quiet_step (fail))
    refine wpQuiet_nil ?_
    rintro W1 ⟨⟨_, hF⟩, rfl⟩
    obtain rfl := hF.eq
    clear f0 f1 f4 hne hg0
    have HD := Lib.hid (show w.drew.heap[R]? = _ from H1.out)
    go_wp2_with fail
    refine (C2.out _).mono ?_
    rintro e w1 ⟨rfl, hw1⟩
    subst hw1
    have o1 : OnlyP (fun _ => False) w w.drew := ⟨rfl, rfl, rfl, Nat.le_refl _, fun _ _ _ => rfl⟩
    have o2 := Lib.hid (show OnlyP P w w.drew from ⟨rfl, rfl, rfl, Nat.le_refl _, fun _ _ _ => rfl⟩)
    have HO1 := Lib.hid o1
    clear o1 z0 z1 z3 z4 zf
    generalize hV : w.drew = V at HD o2 HO1 ⊢
    clear hV
    have d0 := cellH HD.out 0
    have d1 := cellH HD.out 1
    have d2 := cellH HD.out 2
    have d3 := cellH HD.out 3
    have d4 := cellH HD.out 4
    have df := freeH HD.out
    simp at d0 d1 d2 d3 d4
    by_cases hbig : L.half < m
    · rw [if_pos hbig] at hL'
      have HE := Lib.hid hL'
      clear hL'
      go_wp2_with fail
      go_ret
      exact ⟨ret_int (by rw [HE.out]), by rw [HE.out]; exact HL.out.wide HO1.out, o2.out⟩
    · rw [if_neg hbig] at hL'
      have HE := Lib.hid hL'
      clear hL'
      have hm2 : (m : Int) ≤ L.half := by omega
      clear hbig
      have K0 := Lib.hid (row_set (i := 0) (v := .int .i64 (L.gen + 1)) HD.out)
      have K2 := Lib.hid (row_set (i := 2) (v := .string after) K0.out)
      have K3 := Lib.hid (row_set (i := 3) (v := .slice none 0 0) K2.out)
      have K4 := Lib.hid (row_set (i := 4) (v := .int .i64 m) K3.out)
      go_wp2_with fail
      go_ret
      have hall : OnlyP P w ((((V.setCell ⟨R, 0, none⟩ (.int .i64 (L.gen + 1))).setCell ⟨R, 2, none⟩ (.string after)).setCell ⟨R, 3, none⟩ (.slice none 0 0)).setCell ⟨R, 4, none⟩ (.int .i64 m)) := by
        exact (((o2.out.setCell (.inl hPR)).setCell (.inl hPR)).setCell (.inl hPR)).setCell (.inl hPR)
      refine ⟨ret_int (by rw [HE.out]), ?_, hall⟩
      rw [HE.out]
      exact ⟨fun i hi => hi.2, ⟨.inl hPR, Nat.lt_of_lt_of_le hRs hall.size⟩, _, K4.out, fun g hg => by simp [Value.ownBlock] at hg, World.ownsRow_nil _ _ _ _⟩
end Go.Proofs.Ytbdgmddlghhkjaa
