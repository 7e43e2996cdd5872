/-
  Lists of labels and of principals, cell by cell: as a row that the call owns, and as they came in; slices.Clone of both. No conditions but how the lists lie in memory.
-/
import Derived.Test.YtnehcaefafdiaaaRosterD
import Derived.WalkKit
import Derived.OwnWalk
import Derived.Laws.OwnMore
import Derived.Laws.AppendOwnNone
namespace Go.Proofs.Ytnehcaefafdiaaa
open Go.RowKit

def labCells (lv st : Nat → Int) (n : Nat) : List Value := (List.range (n * 2)).map fun j => if j % 2 = 0 then .int .i64 (lv (j / 2)) else .int .u16 (st (j / 2))
def pepCells (pt al au : Nat → Int) (n : Nat) : List Value := (List.range (n * 3)).map fun j => if j % 3 = 0 then .int .i64 (pt (j / 3)) else if j % 3 = 1 then .int .i64 (al (j / 3)) else .int .u16 (au (j / 3))

theorem addr_next (ad : Addr) (k : Nat) : (⟨(ad.add k).block, (ad.add k).off + 1, none⟩ : Addr) = ad.add (k + 1) := by
  unfold Addr.add
  by_cases hk : k = 0 <;> simp [hk, Nat.add_assoc]
theorem addr_next2 (ad : Addr) (k : Nat) : (⟨(ad.add k).block, (ad.add k).off + 1 + 1, none⟩ : Addr) = ad.add (k + 2) := by
  unfold Addr.add
  by_cases hk : k = 0 <;> simp [hk, Nat.add_assoc]

theorem labCells_len (lv st : Nat → Int) (n : Nat) : (labCells lv st n).length = n * 2 := by simp [labCells]
theorem pepCells_len (pt al au : Nat → Int) (n : Nat) : (pepCells pt al au n).length = n * 3 := by simp [pepCells]
theorem labCells_one (lv st : Nat → Int) (n : Nat) : ∀ u ∈ labCells lv st n, u.oneCell' = true := by
  intro u hu
  simp only [labCells, List.mem_map] at hu
  obtain ⟨j, _, rfl⟩ := hu
  split <;> rfl
theorem pepCells_one (pt al au : Nat → Int) (n : Nat) : ∀ u ∈ pepCells pt al au n, u.oneCell' = true := by
  intro u hu
  simp only [pepCells, List.mem_map] at hu
  obtain ⟨j, _, rfl⟩ := hu
  split
  · rfl
  · split <;> rfl
theorem labCells_at {lv st : Nat → Int} {n j : Nat} {u : Value} (h : (labCells lv st n)[j]? = some u) : j < n * 2 ∧ (if j % 2 = 0 then Value.int .i64 (lv (j / 2)) else .int .u16 (st (j / 2))) = u := by
  simp only [labCells, List.getElem?_map, Option.map_eq_some_iff] at h
  obtain ⟨k, hk, e⟩ := h
  rw [List.getElem?_eq_some_iff] at hk
  obtain ⟨hl, hk⟩ := hk
  simp at hl hk
  subst hk
  exact ⟨hl, e⟩
theorem pepCells_at {pt al au : Nat → Int} {n j : Nat} {u : Value} (h : (pepCells pt al au n)[j]? = some u) : j < n * 3 ∧ (if j % 3 = 0 then Value.int .i64 (pt (j / 3)) else if j % 3 = 1 then .int .i64 (al (j / 3)) else .int .u16 (au (j / 3))) = u := by
  simp only [pepCells, List.getElem?_map, Option.map_eq_some_iff] at h
  obtain ⟨k, hk, e⟩ := h
  rw [List.getElem?_eq_some_iff] at hk
  obtain ⟨hl, hk⟩ := hk
  simp at hl hk
  subst hk
  exact ⟨hl, e⟩

theorem LabsAt.cells {w : World} {ad : Addr} {n : Nat} {lv st : Nat → Int} (h : LabsAt w (some ad) n lv st) : ∀ j u, (labCells lv st n)[j]? = some u → w.cell? (ad.add j) = some u := by
  intro j u hu
  obtain ⟨hj, rfl⟩ := labCells_at hu
  obtain ⟨ad', e, hc⟩ := h (by omega)
  injection e with e
  subst e
  obtain ⟨h0, h1⟩ := hc (j / 2) (by omega)
  rw [addr_next] at h1
  by_cases hm : j % 2 = 0
  · rw [if_pos hm, show j = j / 2 * 2 by omega, h0]; congr 3; omega
  · rw [if_neg hm, show j = j / 2 * 2 + 1 by omega, h1]; congr 3; omega
theorem PepsAt.cells {w : World} {ad : Addr} {n : Nat} {pt al au : Nat → Int} (h : PepsAt w (some ad) n pt al au) : ∀ j u, (pepCells pt al au n)[j]? = some u → w.cell? (ad.add j) = some u := by
  intro j u hu
  obtain ⟨hj, rfl⟩ := pepCells_at hu
  obtain ⟨ad', e, hc⟩ := h (by omega)
  injection e with e
  subst e
  obtain ⟨h0, h1, h2⟩ := hc (j / 3) (by omega)
  rw [addr_next] at h1
  rw [addr_next2] at h2
  by_cases hm : j % 3 = 0
  · rw [if_pos hm, show j = j / 3 * 3 by omega, h0]; congr 3; omega
  · rw [if_neg hm]
    by_cases hm1 : j % 3 = 1
    · rw [if_pos hm1, show j = j / 3 * 3 + 1 by omega, h1]; congr 3; omega
    · rw [if_neg hm1, show j = j / 3 * 3 + 2 by omega, h2]; congr 3; omega

theorem labs_of_cells {w : World} {ad : Addr} {n : Nat} {lv st : Nat → Int} (h : ∀ j u, (labCells lv st n)[j]? = some u → w.cell? (ad.add j) = some u) : LabsAt w (some ad) n lv st := fun _ => by
  refine ⟨ad, rfl, fun i hi => ⟨h _ _ ?_, ?_⟩⟩
  · simp [labCells, show i * 2 < n * 2 by omega]
  · rw [addr_next]
    refine h _ _ ?_
    have : (i * 2 + 1) / 2 = i := by omega
    simp [labCells, show i * 2 + 1 < n * 2 by omega, this]
theorem peps_of_cells {w : World} {ad : Addr} {n : Nat} {pt al au : Nat → Int} (h : ∀ j u, (pepCells pt al au n)[j]? = some u → w.cell? (ad.add j) = some u) : PepsAt w (some ad) n pt al au := fun _ => by
  refine ⟨ad, rfl, fun i hi => ⟨h _ _ ?_, ?_, ?_⟩⟩
  · simp [pepCells, show i * 3 < n * 3 by omega]
  · rw [addr_next]
    refine h _ _ ?_
    have : (i * 3 + 1) / 3 = i := by omega
    simp [pepCells, show i * 3 + 1 < n * 3 by omega, this]
  · rw [addr_next2]
    refine h _ _ ?_
    have : (i * 3 + 2) / 3 = i := by omega
    simp [pepCells, show i * 3 + 2 < n * 3 by omega, this]

theorem labs_of_own {w : World} {base : Nat} {v : Value} {n : Nat} {lv st : Nat → Int} (h : w.ownsRow base 26 2 v n (labCells lv st n)) : ∃ A c, v = .slice A n c ∧ n ≤ c ∧ LabsAt w A n lv st := by
  rcases h.2 with ⟨rfl, rfl⟩ | ⟨g, cap, cur, rfl, _, _, hc, _⟩
  · exact ⟨none, 0, rfl, Nat.le_refl _, fun h => absurd h (by omega)⟩
  · exact ⟨_, cap, rfl, hc, labs_of_cells (h.cells (g := g) rfl)⟩
theorem peps_of_own {w : World} {base : Nat} {v : Value} {n : Nat} {pt al au : Nat → Int} (h : w.ownsRow base 35 3 v n (pepCells pt al au n)) : ∃ A c, v = .slice A n c ∧ n ≤ c ∧ PepsAt w A n pt al au := by
  rcases h.2 with ⟨rfl, rfl⟩ | ⟨g, cap, cur, rfl, _, _, hc, _⟩
  · exact ⟨none, 0, rfl, Nat.le_refl _, fun h => absurd h (by omega)⟩
  · exact ⟨_, cap, rfl, hc, peps_of_cells (h.cells (g := g) rfl)⟩

theorem info_lab : (Try.prog.info? 26).map (fun i => (i.zero, i.size, i.bytes)) = some (some (.agg #[.int .i64 0, .int .u16 0]), 2, 16) := by kernel_rfl
theorem info_pep : (Try.prog.info? 35).map (fun i => (i.zero, i.size, i.bytes)) = some (some (.agg #[.int .i64 0, .int .i64 0, .int .u16 0]), 3, 24) := by kernel_rfl

/-- A list of n labels is answered. -/
def LabsOut (w : World) (n : Nat) (lv st : Nat → Int) (e : Ending) (w' : World) : Prop := ∃ A c, e = .returned (.slice A n c) ∧ n ≤ c ∧ LabsAt w' A n lv st ∧ Below w.heap.size w w'
/-- A list of n principals is answered. -/
def PepsOut (w : World) (n : Nat) (pt al au : Nat → Int) (e : Ending) (w' : World) : Prop := ∃ A c, e = .returned (.slice A n c) ∧ n ≤ c ∧ PepsAt w' A n pt al au ∧ Below w.heap.size w w'

@[go_sem ↓] theorem nilLabs (w : World) (a : Option Addr) (n c : Nat) : (binOp .eql 22 (.slice a n c) (.slice none 0 0)).run Try.prog w = .ok (.bool a.isNone) w := Lib.run_eql_slice_nil w _ 26 a n c 0 0 Try.underlying22
@[go_sem ↓] theorem nilPeps (w : World) (a : Option Addr) (n c : Nat) : (binOp .eql 23 (.slice a n c) (.slice none 0 0)).run Try.prog w = .ok (.bool a.isNone) w := Lib.run_eql_slice_nil w _ 35 a n c 0 0 Try.underlying23

section
variable {A : Option Addr} {n c : Nat} {lv st pt al au : Nat → Int} {w : World}

set_option maxHeartbeats 400000 in
theorem cloneL_is (h : LabsAt w A n lv st) (hn : n ≤ 64) (ha : A = none → n = 0) :
    Calls Try.prog 26 #[.slice A n c] w (LabsOut w n lv st) := by
  rcases A with _ | ad
  · obtain rfl := ha rfl
    go_enter Try.func26, Try.ntmps26
    go_wp2
    go_ret
    exact ⟨none, 0, rfl, Nat.le_refl _, h, Below.refl _ _⟩
  · obtain ⟨i0, hi, hz0, hz1, hz2⟩ := info_parts info_lab
    have hl : LabsAt (w.alloc (.cells #[] 26)) (some ad) n lv st := h.alloc _
    have HL := Lib.hid hl.cells
    clear h hl ha
    go_enter Try.func26, Try.ntmps26
    go_wp2_with (at_builtin; refine wpList_append_own _ rfl _ _ 22 rfl w.heap.size 26 i0 _ 2 16 Try.underlying22 hi hz0 hz1 hz2 rfl (by omega) (.slice (some ⟨w.heap.size, 0, none⟩) 0 0) 0 [] rfl (World.ownsRow_lit w #[] 0 (Nat.le_refl _) (by unfold maxLen; omega) rfl) ad n c (labCells lv st n) rfl (labCells_len _ _ _) HL.out (labCells_one _ _ _) (by unfold maxLen; omega) (by omega) (by simp) ?_; intro v1 w1 hown1 hg1 _)
    have hown2 : w1.ownsRow w.heap.size 26 2 v1 n (labCells lv st n) := by simpa using hown1
    clear hown1
    obtain ⟨A', c', rfl, hc', hl'⟩ := labs_of_own hown2
    go_ret
    exact ⟨A', c', rfl, hc', hl', ((Below.refl _ _).alloc (Nat.le_refl _) _).grown hg1 (by simp) (by simp [Value.ownBlock])⟩

set_option maxHeartbeats 400000 in
theorem cloneP_is (h : PepsAt w A n pt al au) (hn : n ≤ 64) (ha : A = none → n = 0) :
    Calls Try.prog 27 #[.slice A n c] w (PepsOut w n pt al au) := by
  rcases A with _ | ad
  · obtain rfl := ha rfl
    go_enter Try.func27, Try.ntmps27
    go_wp2
    go_ret
    exact ⟨none, 0, rfl, Nat.le_refl _, h, Below.refl _ _⟩
  · obtain ⟨i0, hi, hz0, hz1, hz2⟩ := info_parts info_pep
    have hl : PepsAt (w.alloc (.cells #[] 35)) (some ad) n pt al au := h.alloc _
    have HL := Lib.hid hl.cells
    clear h hl ha
    go_enter Try.func27, Try.ntmps27
    go_wp2_with (at_builtin; refine wpList_append_own _ rfl _ _ 23 rfl w.heap.size 35 i0 _ 3 24 Try.underlying23 hi hz0 hz1 hz2 rfl (by omega) (.slice (some ⟨w.heap.size, 0, none⟩) 0 0) 0 [] rfl (World.ownsRow_lit w #[] 0 (Nat.le_refl _) (by unfold maxLen; omega) rfl) ad n c (pepCells pt al au n) rfl (pepCells_len _ _ _ _) HL.out (pepCells_one _ _ _ _) (by unfold maxLen; omega) (by omega) (by simp) ?_; intro v1 w1 hown1 hg1 _)
    have hown2 : w1.ownsRow w.heap.size 35 3 v1 n (pepCells pt al au n) := by simpa using hown1
    clear hown1
    obtain ⟨A', c', rfl, hc', hl'⟩ := peps_of_own hown2
    go_ret
    exact ⟨A', c', rfl, hc', hl', ((Below.refl _ _).alloc (Nat.le_refl _) _).grown hg1 (by simp) (by simp [Value.ownBlock])⟩

end
end Go.Proofs.Ytnehcaefafdiaaa
