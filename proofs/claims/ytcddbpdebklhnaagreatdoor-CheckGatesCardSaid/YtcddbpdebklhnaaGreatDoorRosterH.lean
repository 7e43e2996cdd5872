/-
  Lists of labels and of principals, cell by cell: as a row that the call owns, and as they came in; slices.Clone of both. No conditions but how the lists lie in memory. What roster.New answers. No conditions but how the lists lie in memory. What a roster's Sees, May, Find answer. No conditions but how the roster lies in memory. What a roster's May and Find answer. No conditions but how the roster lies in memory.
-/
import Derived.Test.YtcddbpdebklhnaaGreatDoorRosterD
import Derived.WalkKit
import Derived.OwnWalk
import Derived.Laws.OwnMore
import Derived.Laws.AppendOwnNone
namespace Go.Proofs.YtcddbpdebklhnaaGreatDoor
open Go.RowKit

def labCells (lv st : Nat → Int) (n : Nat) : List Value := (List.range (n * 2)).map fun j => if j % 2 = 0 then .int .i64 (lv (j / 2)) else .int .u16 (st (j / 2))
def pepCells (pt al au : Nat → Int) (n : Nat) : List Value := (List.range (n * 3)).map fun j => if j % 3 = 0 then .int .i64 (pt (j / 3)) else if j % 3 = 1 then .int .i64 (al (j / 3)) else .int .u16 (au (j / 3))

theorem addr_next (ad : Addr) (k : Nat) : (⟨(ad.add k).block, (ad.add k).off + 1, none⟩ : Addr) = ad.add (k + 1) := by
  unfold Addr.add
  by_cases hk : k = 0 <;> simp [hk, Nat.add_assoc]
theorem addr_next2 (ad : Addr) (k : Nat) : (⟨(ad.add k).block, (ad.add k).off + 1 + 1, none⟩ : Addr) = ad.add (k + 2) := by
  unfold Addr.add
  by_cases hk : k = 0 <;> simp [hk, Nat.add_assoc]

theorem labCells_len (lv st : Nat → Int) (n : Nat) : (labCells lv st n).length = n * 2 := by simp [labCells]
theorem pepCells_len (pt al au : Nat → Int) (n : Nat) : (pepCells pt al au n).length = n * 3 := by simp [pepCells]
theorem labCells_one (lv st : Nat → Int) (n : Nat) : ∀ u ∈ labCells lv st n, u.oneCell' = true := by
  intro u hu
  simp only [labCells, List.mem_map] at hu
  obtain ⟨j, _, rfl⟩ := hu
  split <;> rfl
theorem pepCells_one (pt al au : Nat → Int) (n : Nat) : ∀ u ∈ pepCells pt al au n, u.oneCell' = true := by
  intro u hu
  simp only [pepCells, List.mem_map] at hu
  obtain ⟨j, _, rfl⟩ := hu
  split
  · rfl
  · split <;> rfl
theorem labCells_at {lv st : Nat → Int} {n j : Nat} {u : Value} (h : (labCells lv st n)[j]? = some u) : j < n * 2 ∧ (if j % 2 = 0 then Value.int .i64 (lv (j / 2)) else .int .u16 (st (j / 2))) = u := by
  simp only [labCells, List.getElem?_map, Option.map_eq_some_iff] at h
  obtain ⟨k, hk, e⟩ := h
  rw [List.getElem?_eq_some_iff] at hk
  obtain ⟨hl, hk⟩ := hk
  simp at hl hk
  subst hk
  exact ⟨hl, e⟩
theorem pepCells_at {pt al au : Nat → Int} {n j : Nat} {u : Value} (h : (pepCells pt al au n)[j]? = some u) : j < n * 3 ∧ (if j % 3 = 0 then Value.int .i64 (pt (j / 3)) else if j % 3 = 1 then .int .i64 (al (j / 3)) else .int .u16 (au (j / 3))) = u := by
  simp only [pepCells, List.getElem?_map, Option.map_eq_some_iff] at h
  obtain ⟨k, hk, e⟩ := h
  rw [List.getElem?_eq_some_iff] at hk
  obtain ⟨hl, hk⟩ := hk
  simp at hl hk
  subst hk
  exact ⟨hl, e⟩

theorem LabsAt.cells {w : World} {ad : Addr} {n : Nat} {lv st : Nat → Int} (h : LabsAt w (some ad) n lv st) : ∀ j u, (labCells lv st n)[j]? = some u → w.cell? (ad.add j) = some u := by
  intro j u hu
  obtain ⟨hj, rfl⟩ := labCells_at hu
  obtain ⟨ad', e, hc⟩ := h (by omega)
  injection e with e
  subst e
  obtain ⟨h0, h1⟩ := hc (j / 2) (by omega)
  rw [addr_next] at h1
  by_cases hm : j % 2 = 0
  · rw [if_pos hm, show j = j / 2 * 2 by omega, h0]; congr 3; omega
  · rw [if_neg hm, show j = j / 2 * 2 + 1 by omega, h1]; congr 3; omega
theorem PepsAt.cells {w : World} {ad : Addr} {n : Nat} {pt al au : Nat → Int} (h : PepsAt w (some ad) n pt al au) : ∀ j u, (pepCells pt al au n)[j]? = some u → w.cell? (ad.add j) = some u := by
  intro j u hu
  obtain ⟨hj, rfl⟩ := pepCells_at hu
  obtain ⟨ad', e, hc⟩ := h (by omega)
  injection e with e
  subst e
  obtain ⟨h0, h1, h2⟩ := hc (j / 3) (by omega)
  rw [addr_next] at h1
  rw [addr_next2] at h2
  by_cases hm : j % 3 = 0
  · rw [if_pos hm, show j = j / 3 * 3 by omega, h0]; congr 3; omega
  · rw [if_neg hm]
    by_cases hm1 : j % 3 = 1
    · rw [if_pos hm1, show j = j / 3 * 3 + 1 by omega, h1]; congr 3; omega
    · rw [if_neg hm1, show j = j / 3 * 3 + 2 by omega, h2]; congr 3; omega

theorem labs_of_cells {w : World} {ad : Addr} {n : Nat} {lv st : Nat → Int} (h : ∀ j u, (labCells lv st n)[j]? = some u → w.cell? (ad.add j) = some u) : LabsAt w (some ad) n lv st := fun _ => by
  refine ⟨ad, rfl, fun i hi => ⟨h _ _ ?_, ?_⟩⟩
  · simp [labCells, show i * 2 < n * 2 by omega]
  · rw [addr_next]
    refine h _ _ ?_
    have : (i * 2 + 1) / 2 = i := by omega
    simp [labCells, show i * 2 + 1 < n * 2 by omega, this]
theorem peps_of_cells {w : World} {ad : Addr} {n : Nat} {pt al au : Nat → Int} (h : ∀ j u, (pepCells pt al au n)[j]? = some u → w.cell? (ad.add j) = some u) : PepsAt w (some ad) n pt al au := fun _ => by
  refine ⟨ad, rfl, fun i hi => ⟨h _ _ ?_, ?_, ?_⟩⟩
  · simp [pepCells, show i * 3 < n * 3 by omega]
  · rw [addr_next]
    refine h _ _ ?_
    have : (i * 3 + 1) / 3 = i := by omega
    simp [pepCells, show i * 3 + 1 < n * 3 by omega, this]
  · rw [addr_next2]
    refine h _ _ ?_
    have : (i * 3 + 2) / 3 = i := by omega
    simp [pepCells, show i * 3 + 2 < n * 3 by omega, this]

theorem labs_of_own {w : World} {base : Nat} {v : Value} {n : Nat} {lv st : Nat → Int} (h : w.ownsRow base 41 2 v n (labCells lv st n)) : ∃ A c, v = .slice A n c ∧ n ≤ c ∧ LabsAt w A n lv st := by
  rcases h.2 with ⟨rfl, rfl⟩ | ⟨g, cap, cur, rfl, _, _, hc, _⟩
  · exact ⟨none, 0, rfl, Nat.le_refl _, fun h => absurd h (by omega)⟩
  · exact ⟨_, cap, rfl, hc, labs_of_cells (h.cells (g := g) rfl)⟩
theorem peps_of_own {w : World} {base : Nat} {v : Value} {n : Nat} {pt al au : Nat → Int} (h : w.ownsRow base 47 3 v n (pepCells pt al au n)) : ∃ A c, v = .slice A n c ∧ n ≤ c ∧ PepsAt w A n pt al au := by
  rcases h.2 with ⟨rfl, rfl⟩ | ⟨g, cap, cur, rfl, _, _, hc, _⟩
  · exact ⟨none, 0, rfl, Nat.le_refl _, fun h => absurd h (by omega)⟩
  · exact ⟨_, cap, rfl, hc, peps_of_cells (h.cells (g := g) rfl)⟩

theorem info_lab : (Tryz.prog.info? 41).map (fun i => (i.zero, i.size, i.bytes)) = some (some (.agg #[.int .i64 0, .int .u16 0]), 2, 16) := by kernel_rfl
theorem info_pep : (Tryz.prog.info? 47).map (fun i => (i.zero, i.size, i.bytes)) = some (some (.agg #[.int .i64 0, .int .i64 0, .int .u16 0]), 3, 24) := by kernel_rfl

/-- A list of n labels is answered. -/
def LabsOut (w : World) (n : Nat) (lv st : Nat → Int) (e : Ending) (w' : World) : Prop := ∃ A c, e = .returned (.slice A n c) ∧ n ≤ c ∧ LabsAt w' A n lv st ∧ Below w.heap.size w w'
/-- A list of n principals is answered. -/
def PepsOut (w : World) (n : Nat) (pt al au : Nat → Int) (e : Ending) (w' : World) : Prop := ∃ A c, e = .returned (.slice A n c) ∧ n ≤ c ∧ PepsAt w' A n pt al au ∧ Below w.heap.size w w'

@[go_sem ↓] theorem nilLabs (w : World) (a : Option Addr) (n c : Nat) : (binOp .eql 25 (.slice a n c) (.slice none 0 0)).run Tryz.prog w = .ok (.bool a.isNone) w := Lib.run_eql_slice_nil w _ 41 a n c 0 0 Tryz.underlying25
@[go_sem ↓] theorem nilPeps (w : World) (a : Option Addr) (n c : Nat) : (binOp .eql 26 (.slice a n c) (.slice none 0 0)).run Tryz.prog w = .ok (.bool a.isNone) w := Lib.run_eql_slice_nil w _ 47 a n c 0 0 Tryz.underlying26

section
variable {A : Option Addr} {n c : Nat} {lv st pt al au : Nat → Int} {w : World}

set_option maxHeartbeats 400000 in
set_option maxRecDepth 100000 in
theorem cloneL_is (h : LabsAt w A n lv st) (hn : n ≤ 64) (ha : A = none → n = 0) :
    Calls Tryz.prog 20 #[.slice A n c] w (LabsOut w n lv st) := by
  rcases A with _ | ad
  · obtain rfl := ha rfl
    go_enter Tryz.func20, Tryz.ntmps20
    go_wp2
    go_ret
    exact ⟨none, 0, rfl, Nat.le_refl _, h, Below.refl _ _⟩
  · obtain ⟨i0, hi, hz0, hz1, hz2⟩ := info_parts info_lab
    have hl : LabsAt (w.alloc (.cells #[] 41)) (some ad) n lv st := h.alloc _
    have HL := Lib.hid hl.cells
    clear h hl ha
    go_enter Tryz.func20, Tryz.ntmps20
    go_wp2_with (at_builtin; refine wpList_append_own _ rfl _ _ 25 rfl w.heap.size 41 i0 _ 2 16 Tryz.underlying25 hi hz0 hz1 hz2 rfl (by omega) (.slice (some ⟨w.heap.size, 0, none⟩) 0 0) 0 [] rfl (World.ownsRow_lit w #[] 0 (Nat.le_refl _) (by unfold maxLen; omega) rfl) ad n c (labCells lv st n) rfl (labCells_len _ _ _) HL.out (labCells_one _ _ _) (by unfold maxLen; omega) (by omega) (by simp) ?_; intro v1 w1 hown1 hg1 _)
    have hown2 : w1.ownsRow w.heap.size 41 2 v1 n (labCells lv st n) := by simpa using hown1
    clear hown1
    obtain ⟨A', c', rfl, hc', hl'⟩ := labs_of_own hown2
    go_ret
    exact ⟨A', c', rfl, hc', hl', ((Below.refl _ _).alloc (Nat.le_refl _) _).grown hg1 (by simp) (by simp [Value.ownBlock])⟩

set_option maxHeartbeats 400000 in
set_option maxRecDepth 100000 in
theorem cloneP_is (h : PepsAt w A n pt al au) (hn : n ≤ 64) (ha : A = none → n = 0) :
    Calls Tryz.prog 21 #[.slice A n c] w (PepsOut w n pt al au) := by
  rcases A with _ | ad
  · obtain rfl := ha rfl
    go_enter Tryz.func21, Tryz.ntmps21
    go_wp2
    go_ret
    exact ⟨none, 0, rfl, Nat.le_refl _, h, Below.refl _ _⟩
  · obtain ⟨i0, hi, hz0, hz1, hz2⟩ := info_parts info_pep
    have hl : PepsAt (w.alloc (.cells #[] 47)) (some ad) n pt al au := h.alloc _
    have HL := Lib.hid hl.cells
    clear h hl ha
    go_enter Tryz.func21, Tryz.ntmps21
    go_wp2_with (at_builtin; refine wpList_append_own _ rfl _ _ 26 rfl w.heap.size 47 i0 _ 3 24 Tryz.underlying26 hi hz0 hz1 hz2 rfl (by omega) (.slice (some ⟨w.heap.size, 0, none⟩) 0 0) 0 [] rfl (World.ownsRow_lit w #[] 0 (Nat.le_refl _) (by unfold maxLen; omega) rfl) ad n c (pepCells pt al au n) rfl (pepCells_len _ _ _ _) HL.out (pepCells_one _ _ _ _) (by unfold maxLen; omega) (by omega) (by simp) ?_; intro v1 w1 hown1 hg1 _)
    have hown2 : w1.ownsRow w.heap.size 47 3 v1 n (pepCells pt al au n) := by simpa using hown1
    clear hown1
    obtain ⟨A', c', rfl, hc', hl'⟩ := peps_of_own hown2
    go_ret
    exact ⟨A', c', rfl, hc', hl', ((Below.refl _ _).alloc (Nat.le_refl _) _).grown hg1 (by simp) (by simp [Value.ownBlock])⟩

end
end Go.Proofs.YtcddbpdebklhnaaGreatDoor

namespace Go.Proofs.YtcddbpdebklhnaaGreatDoor
open Go.RowKit

section
variable {A B : Option Addr} {n m c d : Nat} {lv st pt al au : Nat → Int} {w : World}

theorem rfault_is (hl : LabsAt w A n lv st) (hp : PepsAt w B m pt al au) (hc : n ≤ c) :
    Calls Tryz.prog 19 #[.slice A n c, .slice B m d] w fun e w' => e = .returned (.int .i64 (faultV n m lv st pt al)) ∧ Below w.heap.size w w' := by
  by_cases h : n = 0 ∨ 4 < n ∨ 12 < m
  · rw [faultV_len lv st pt al h]
    exact fault_len h
  · exact fault_all hl hp hc (by omega) (by omega) (by omega)

theorem faultV_ok (h : faultV n m lv st pt al = 0) : 0 < n ∧ n ≤ 4 ∧ m ≤ 12 := by
  unfold faultV at h
  split at h
  · cases h
  · omega

/-- New's answer: the roster, in a new block, if nothing is wrong; else none, and why. -/
def NewOut (w : World) (n m : Nat) (lv st pt al au : Nat → Int) (e : Ending) (w' : World) : Prop :=
  Below w.heap.size w w' ∧ ((faultV n m lv st pt al ≠ 0 ∧ e = .returned (.tuple #[.pointer none, .int .i64 (faultV n m lv st pt al)])) ∨
    (faultV n m lv st pt al = 0 ∧ ∃ R, e = .returned (.tuple #[.pointer (some ⟨R, 0, none⟩), .int .i64 0]) ∧ RosAt w' R n m lv st pt al au))

set_option maxHeartbeats 400000 in
set_option maxRecDepth 100000 in
theorem new_no (hl : LabsAt w A n lv st) (hp : PepsAt w B m pt al au) (hc : n ≤ c) (h : faultV n m lv st pt al ≠ 0) :
    Calls Tryz.prog 8 #[.slice A n c, .slice B m d] w fun e w' => e = .returned (.tuple #[.pointer none, .int .i64 (faultV n m lv st pt al)]) ∧ Below w.heap.size w w' := by
  have hf := Lib.hid (rfault_is (d := d) hl hp hc)
  generalize faultV n m lv st pt al = r at hf h ⊢
  have hr : (r != 0) = true := by simpa using h
  clear hl hp h
  go_enter Tryz.func8, Tryz.ntmps8
  go_wp2_with (go_at_call 19; refine hf.out.mono ?_; rintro e w1 ⟨rfl, hb⟩)
  go_ret2
  exact ⟨rfl, hb⟩

set_option maxHeartbeats 400000 in
set_option maxRecDepth 100000 in
theorem new_yes (hl : LabsAt w A n lv st) (hp : PepsAt w B m pt al au) (hc : n ≤ c) (ha : A = none → n = 0) (hb : B = none → m = 0) (h : faultV n m lv st pt al = 0) :
    Calls Tryz.prog 8 #[.slice A n c, .slice B m d] w fun e w' => (∃ R, e = .returned (.tuple #[.pointer (some ⟨R, 0, none⟩), .int .i64 0]) ∧ RosAt w' R n m lv st pt al au) ∧ Below w.heap.size w w' := by
  obtain ⟨h1, h4, h12⟩ := faultV_ok h
  have hf := rfault_is (d := d) hl hp hc
  rw [h] at hf
  have hf := Lib.hid hf
  have n4 : n ≤ 64 := by omega
  have m4 : m ≤ 64 := by omega
  have HA := Lib.hid ha
  have HB := Lib.hid hb
  clear h ha hb
  go_enter Tryz.func8, Tryz.ntmps8
  go_wp2_with fail
  refine hf.out.mono ?_
  rintro e w1 ⟨rfl, hb1⟩
  replace hl := hl.later hb1
  replace hp := hp.later hb1
  go_wp2_with fail
  refine (cloneL_is hl n4 HA.out).mono ?_
  rintro e w2 ⟨A2, c2, rfl, hc2, hl2, hb2⟩
  replace hp := hp.later hb2
  go_wp2_with fail
  refine (cloneP_is hp m4 HB.out).mono ?_
  rintro e w3 ⟨B3, d3, rfl, hd3, hp3, hb3⟩
  replace hl2 := hl2.later hb3
  go_wp2_with fail
  go_ret2
  refine ⟨⟨w3.heap.size, rfl, A2, c2, B3, d3, by simp [go_sem], by simp [go_sem], hl2.alloc _, hp3.alloc _, h4, h12⟩, ?_⟩
  exact (below_step (below_step hb1 hb2) hb3).alloc (below_step (below_step hb1 hb2) hb3).size _

theorem new_is (hl : LabsAt w A n lv st) (hp : PepsAt w B m pt al au) (hc : n ≤ c) (ha : A = none → n = 0) (hb : B = none → m = 0) :
    Calls Tryz.prog 8 #[.slice A n c, .slice B m d] w (NewOut w n m lv st pt al au) := by
  by_cases h : faultV n m lv st pt al = 0
  · exact (new_yes hl hp hc ha hb h).mono fun e w' ⟨hr, hb⟩ => ⟨hb, .inr ⟨h, hr⟩⟩
  · exact (new_no hl hp hc h).mono fun e w' ⟨hr, hb⟩ => ⟨hb, .inl ⟨h, hr⟩⟩

end
end Go.Proofs.YtcddbpdebklhnaaGreatDoor

namespace Go.Proofs.YtcddbpdebklhnaaGreatDoor
open Go.RowKit

/-- May a principal read there? -/
def seesB (n m : Nat) (lv st pt : Nat → Int) (who part : Int) : Bool :=
  thereB (partV m pt who) n && (thereB part n && leqB (rlabV n lv part) (rlabV n st part) (rlabV n lv (partV m pt who)) (rlabV n st (partV m pt who)))
/-- May one let something of its partition go to a label? -/
def mayB (n m : Nat) (lv st pt al au : Nat → Int) (who l s : Int) : Bool :=
  thereB (partV m pt who) n && leqB (offL (rlabV n lv (partV m pt who)) l) (offS (rlabV n st (partV m pt who)) s) (al who.toNat) (au who.toNat)

section
variable {R n m : Nat} {lv st pt al au : Nat → Int} {w : World}

end
end Go.Proofs.YtcddbpdebklhnaaGreatDoor

namespace Go.Proofs.YtcddbpdebklhnaaGreatDoor
open Go.RowKit

section
variable {R n m : Nat} {lv st pt al au : Nat → Int} {w : World}

/-- What is held while Find's list and label are read. -/
def FindS (w : World) (R : Nat) (A : Option Addr) (n c : Nat) (lv st : Nat → Int) (l s : Int) (W : World) : Prop :=
  W.cell? ⟨R, 0, none⟩ = some (.slice A n c) ∧ W.cell? ⟨w.heap.size, 0, none⟩ = some (.int .i64 l) ∧ W.cell? ⟨w.heap.size, 1, none⟩ = some (.int .u16 s) ∧ LabsAt W A n lv st ∧ Below w.heap.size w W
theorem FindS.keep {w : World} {R : Nat} {A : Option Addr} {n c : Nat} {lv st : Nat → Int} {l s : Int} : ∀ v v', FindS w R A n c lv st l s v → Below v.heap.size v v' → FindS w R A n c lv st l s v' :=
  fun _ _ ⟨a, b, c, d, e⟩ hb => ⟨cell_later hb a, cell_later hb b, cell_later hb c, d.later hb, below_step e hb⟩

set_option maxHeartbeats 400000 in
set_option maxRecDepth 100000 in
theorem rfind_is (h : RosAt w R n m lv st pt al au) (l s : Int) :
    Calls Tryz.prog 28 #[.pointer (some ⟨R, 0, none⟩), .agg #[.int .i64 l, .int .u16 s]] w fun e w' => e = .returned (.int .i64 (firstN (fun i => sameB l s (lv i) (st i)) n)) ∧ Below w.heap.size w w' := by
  obtain ⟨A, c, B, d, h1, h2, h3, h4, h5, h6⟩ := h
  have HS := Lib.hid (show FindS w R A n c lv st l s (w.alloc (.cells #[.int .i64 l, .int .u16 s] 41)).drew from
    ⟨cell_alloc h1, by simp [go_sem], by simp [go_sem], h3.alloc _, ((Below.refl _ _).alloc (Nat.le_refl _) _).drew⟩)
  have n4 : n ≤ 64 := by omega
  clear h1 h2 h3 h4
  go_enter Tryz.func28, Tryz.ntmps28
  go_wp2_with fail
  refine wp_region_kept (FindS w R A n c lv st l s) (by kernel_rfl) (by kernel_rfl) HS.out ?_
  intro hne
  have f0 : ∀ x : HeldW (FindS w R A n c lv st l s), x.w.cell? ⟨R, 0, none⟩ = some (.slice A n c) := fun x => x.ok.1
  have f1 : ∀ x : HeldW (FindS w R A n c lv st l s), x.w.cell? ⟨w.heap.size, 0, none⟩ = some (.int .i64 l) := fun x => x.ok.2.1
  have f2 : ∀ x : HeldW (FindS w R A n c lv st l s), x.w.cell? ⟨w.heap.size, 1, none⟩ = some (.int .u16 s) := fun x => x.ok.2.2.1
  repeat (go_big_quiet_step ((go_at_call 50; rename_i x; refine kept_of FindS.keep (index_is x.ok.2.2.2.1 n4 _ _))))
  refine wpQuiet_nil ?_
  rintro _ ⟨⟨wq, hq⟩, rfl⟩
  obtain ⟨_, _, _, _, hbq⟩ := hq
  clear f0 f1 f2 hne
  go_wp2_with fail
  go_ret
  exact ⟨rfl, hbq⟩

set_option maxHeartbeats 400000 in
set_option maxRecDepth 100000 in
theorem find_nil (l s : Int) (w : World) :
    Calls Tryz.prog 28 #[.pointer none, .agg #[.int .i64 l, .int .u16 s]] w fun e w' => e = .returned (.int .i64 (-1)) ∧ Below w.heap.size w w' := by
  go_enter Tryz.func28, Tryz.ntmps28
  go_wp2_with fail
  go_ret
  exact ⟨rfl, (Below.refl _ _).alloc (Nat.le_refl _) _⟩

/-- What is held while May's labels are read: o, the block of its own label. -/
def MayS (w : World) (R o : Nat) (ad : Addr) (m d i : Nat) (a b l s x y : Int) (W : World) : Prop :=
  W.cell? ⟨R, 1, none⟩ = some (.slice (some ad) m d) ∧ W.cell? ⟨w.heap.size, 0, none⟩ = some (.int .i64 l) ∧ W.cell? ⟨w.heap.size, 1, none⟩ = some (.int .u16 s) ∧
  W.cell? ⟨o, 0, none⟩ = some (.int .i64 x) ∧ W.cell? ⟨o, 1, none⟩ = some (.int .u16 y) ∧
  W.cell? ⟨(ad.add (i * 3)).block, (ad.add (i * 3)).off + 1, none⟩ = some (.int .i64 a) ∧ W.cell? ⟨(ad.add (i * 3)).block, (ad.add (i * 3)).off + 1 + 1, none⟩ = some (.int .u16 b) ∧ Below w.heap.size w W
theorem MayS.keep {w : World} {R o : Nat} {ad : Addr} {m d i : Nat} {a b l s x y : Int} : ∀ v v', MayS w R o ad m d i a b l s x y v → Below v.heap.size v v' → MayS w R o ad m d i a b l s x y v' :=
  fun _ _ ⟨a, b, c, d, e, f, g, k⟩ hb => ⟨cell_later hb a, cell_later hb b, cell_later hb c, cell_later hb d, cell_later hb e, cell_later hb f, cell_later hb g, below_step k hb⟩

set_option maxHeartbeats 1000000 in
set_option maxRecDepth 100000 in
theorem rmay_is (h : RosAt w R n m lv st pt al au) (who l s : Int) :
    Calls Tryz.prog 32 #[.pointer (some ⟨R, 0, none⟩), .int .i64 who, .agg #[.int .i64 l, .int .u16 s]] w fun e w' => e = .returned (.bool (mayB n m lv st pt al au who l s)) ∧ Below w.heap.size w w' := by
  have HV := Lib.hid (show mayB n m lv st pt al au who l s = (thereB (partV m pt who) n && leqB (offL (rlabV n lv (partV m pt who)) l) (offS (rlabV n st (partV m pt who)) s) (al who.toNat) (au who.toNat)) from rfl)
  have HR := Lib.hid (h.alloc (.cells #[.int .i64 l, .int .u16 s] 41))
  have hL : ∀ W, RosAt W R n m lv st pt al au → ∀ p : Int, Calls Tryz.prog 22 #[.pointer (some ⟨R, 0, none⟩), .int .i64 p] W fun e w' => e = .returned (.tuple #[.agg #[.int .i64 (rlabV n lv p), .int .u16 (rlabV n st p)], .bool (thereB p n)]) ∧ Below W.heap.size W w' := fun W hW p => rlabel_is hW p
  have HL := Lib.hid hL
  clear h hL
  generalize hv : mayB n m lv st pt al au who l s = v at HV ⊢
  clear hv
  cases t0 : thereB who m
  · have HO := Lib.hid (show partV m pt who = -1 by simp [partV, t0])
    have t1 : thereB (-1) n = false := by simp [thereB]
    have hv := HV.out
    rw [HO.out, t1] at hv
    simp only [Bool.false_and] at hv
    subst hv
    go_enter Tryz.func32, Tryz.ntmps32
    go_wp2_with fail
    refine (part_is HR.out _).mono ?_
    rintro e w0 ⟨rfl, rfl⟩
    rw [HO.out]
    go_wp2_with fail
    refine (HL.out _ HR.out (-1)).mono ?_
    rintro e w1 ⟨rfl, hb1⟩
    rw [t1]
    have hB1 := below_step ((Below.refl w.heap.size w).alloc (Nat.le_refl _) _) hb1
    have hB2 := hB1.alloc hB1.size (.cells #[.int .i64 (rlabV n lv (-1)), .int .u16 (rlabV n st (-1))] 41)
    clear hb1 hB1
    go_wp2_with fail
    go_quiet (fail)
    go_wp2_with fail
    go_ret
    exact ⟨rfl, below_drewN hB2 _⟩
  · obtain ⟨i, hi, rfl⟩ := there_nat t0
    have HO := Lib.hid (show partV m pt i = pt i by simp [partV, t0])
    have hv := HV.out
    rw [HO.out] at hv
    have e1 : ((i : Int).toNat) = i := by omega
    rw [e1] at hv
    clear HV e1
    generalize pt i = own at hv HO
    cases t1 : thereB own n
    · rw [t1] at hv
      simp only [Bool.false_and] at hv
      subst hv
      go_enter Tryz.func32, Tryz.ntmps32
      go_wp2_with fail
      refine (part_is HR.out _).mono ?_
      rintro e w0 ⟨rfl, rfl⟩
      rw [HO.out]
      go_wp2_with fail
      refine (HL.out _ HR.out own).mono ?_
      rintro e w1 ⟨rfl, hb1⟩
      rw [t1]
      have hB1 := below_step ((Below.refl w.heap.size w).alloc (Nat.le_refl _) _) hb1
      have hB2 := hB1.alloc hB1.size (.cells #[.int .i64 (rlabV n lv own), .int .u16 (rlabV n st own)] 41)
      clear hb1 hB1
      go_wp2_with fail
      go_quiet (fail)
      go_wp2_with fail
      go_ret
      exact ⟨rfl, below_drewN hB2 _⟩
    · rw [t1] at hv
      simp only [Bool.true_and] at hv
      subst hv
      go_enter Tryz.func32, Tryz.ntmps32
      go_wp2_with fail
      refine (part_is HR.out _).mono ?_
      rintro e w0 ⟨rfl, rfl⟩
      rw [HO.out]
      go_wp2_with fail
      refine (HL.out _ HR.out own).mono ?_
      rintro e w1 ⟨rfl, hb1⟩
      rw [t1]
      have hB1 := below_step ((Below.refl w.heap.size w).alloc (Nat.le_refl _) (.cells #[.int .i64 l, .int .u16 s] 41)) hb1
      have hB2 := hB1.alloc hB1.size (.cells #[.int .i64 (rlabV n lv own), .int .u16 (rlabV n st own)] 41)
      obtain ⟨A, c, B, d, h1, h2, h3, h4, h5, h6⟩ := (HR.out.later hb1).alloc (.cells #[.int .i64 (rlabV n lv own), .int .u16 (rlabV n st own)] 41)
      obtain ⟨ad, rfl, p0, p1, p2⟩ := h4.at_ hi
      have HS := Lib.hid (show MayS w R w1.heap.size ad m d i (al i) (au i) l s (rlabV n lv own) (rlabV n st own) (w1.alloc (.cells #[.int .i64 (rlabV n lv own), .int .u16 (rlabV n st own)] 41)).drew from
        ⟨h2, cell_alloc (cell_later hb1 (by simp [go_sem])), cell_alloc (cell_later hb1 (by simp [go_sem])), by simp [go_sem], by simp [go_sem], p1, p2, hB2.drew⟩)
      clear hb1 hB1 hB2 h1 h2 h3 h4 p0 p1 p2
      have i1 : (0 : Int) ≤ i := by omega
      have i2 : (i : Int) < m := by omega
      go_wp2_with fail
      refine wp_region_kept (MayS w R w1.heap.size ad m d i (al i) (au i) l s (rlabV n lv own) (rlabV n st own)) (by kernel_rfl) (by kernel_rfl) HS.out ?_
      intro hne
      have f0 : ∀ x : HeldW (MayS w R w1.heap.size ad m d i (al i) (au i) l s (rlabV n lv own) (rlabV n st own)), x.w.cell? ⟨R, 1, none⟩ = some (.slice (some ad) m d) := fun x => x.ok.1
      have f1 : ∀ x : HeldW (MayS w R w1.heap.size ad m d i (al i) (au i) l s (rlabV n lv own) (rlabV n st own)), x.w.cell? ⟨w.heap.size, 0, none⟩ = some (.int .i64 l) := fun x => x.ok.2.1
      have f2 : ∀ x : HeldW (MayS w R w1.heap.size ad m d i (al i) (au i) l s (rlabV n lv own) (rlabV n st own)), x.w.cell? ⟨w.heap.size, 1, none⟩ = some (.int .u16 s) := fun x => x.ok.2.2.1
      have f3 : ∀ x : HeldW (MayS w R w1.heap.size ad m d i (al i) (au i) l s (rlabV n lv own) (rlabV n st own)), x.w.cell? ⟨w1.heap.size, 0, none⟩ = some (.int .i64 (rlabV n lv own)) := fun x => x.ok.2.2.2.1
      have f4 : ∀ x : HeldW (MayS w R w1.heap.size ad m d i (al i) (au i) l s (rlabV n lv own) (rlabV n st own)), x.w.cell? ⟨w1.heap.size, 1, none⟩ = some (.int .u16 (rlabV n st own)) := fun x => x.ok.2.2.2.2.1
      have f5 : ∀ x : HeldW (MayS w R w1.heap.size ad m d i (al i) (au i) l s (rlabV n lv own) (rlabV n st own)), x.w.cell? ⟨(ad.add (i * 3)).block, (ad.add (i * 3)).off + 1, none⟩ = some (.int .i64 (al i)) := fun x => x.ok.2.2.2.2.2.1
      have f6 : ∀ x : HeldW (MayS w R w1.heap.size ad m d i (al i) (au i) l s (rlabV n lv own) (rlabV n st own)), x.w.cell? ⟨(ad.add (i * 3)).block, (ad.add (i * 3)).off + 1 + 1, none⟩ = some (.int .u16 (au i)) := fun x => x.ok.2.2.2.2.2.2.1
      repeat (go_big_quiet_step (first | (go_at_call 52; rename_i x; refine kept_of MayS.keep (off_is _ _ _ _ _)) | (go_at_call 51; rename_i x; refine kept_of MayS.keep (over_is _ _ _ _ _ rfl _))))
      refine wpQuiet_nil ?_
      rintro _ ⟨⟨wq, hq⟩, rfl⟩
      obtain ⟨_, _, _, _, _, _, _, hbq⟩ := hq
      clear f0 f1 f2 f3 f4 f5 f6 hne
      go_wp2_with fail
      go_ret
      exact ⟨rfl, hbq⟩

set_option maxHeartbeats 400000 in
set_option maxRecDepth 100000 in
theorem may_nil (who l s : Int) (w : World) :
    Calls Tryz.prog 32 #[.pointer none, .int .i64 who, .agg #[.int .i64 l, .int .u16 s]] w fun e w' => e = .returned (.bool false) ∧ Below w.heap.size w w' := by
  go_enter Tryz.func32, Tryz.ntmps32
  go_wp2_with fail
  refine (part_nil _ _).mono ?_
  rintro e w0 ⟨rfl, rfl⟩
  go_wp2_with fail
  refine (label_nil _ _).mono ?_
  rintro e w1 ⟨rfl, hb1⟩
  have hB1 := below_step ((Below.refl w.heap.size w).alloc (Nat.le_refl _) _) hb1
  have hB2 := hB1.alloc hB1.size (.cells #[.int .i64 0, .int .u16 0] 41)
  clear hb1 hB1
  go_wp2_with fail
  go_quiet (fail)
  go_wp2_with fail
  go_ret
  exact ⟨rfl, below_drewN hB2 _⟩

end
end Go.Proofs.YtcddbpdebklhnaaGreatDoor
