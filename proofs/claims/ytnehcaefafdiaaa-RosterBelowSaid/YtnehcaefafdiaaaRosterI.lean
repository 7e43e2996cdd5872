/-
  What a roster's Below, and the document's Below and Same, answer: rising lists of numbers. No conditions but how the lists lie in memory.
-/
import Derived.Test.YtnehcaefafdiaaaRosterH
import Derived.WalkKit
import Derived.OwnWalk
namespace Go.Proofs.Ytnehcaefafdiaaa
open Go.RowKit

/-- Those below n at which p says yes, rising. -/
def belowL (p : Nat → Bool) : Nat → List Int
  | 0 => []
  | n + 1 => if p n then belowL p n ++ [(n : Int)] else belowL p n
theorem belowL_len (p : Nat → Bool) : ∀ n, (belowL p n).length ≤ n
  | 0 => Nat.le_refl _
  | n + 1 => by
    have := belowL_len p n
    unfold belowL
    split <;> simp <;> omega
theorem belowL_mem {p : Nat → Bool} {x : Int} : ∀ {n : Nat}, x ∈ belowL p n ↔ ∃ i : Nat, i < n ∧ x = i ∧ p i = true
  | 0 => by simp [belowL]
  | n + 1 => by
    unfold belowL
    split
    · rename_i hp
      rw [List.mem_append, belowL_mem (n := n)]
      constructor
      · rintro (⟨i, hi, e, h⟩ | h)
        · exact ⟨i, by omega, e, h⟩
        · simp at h; exact ⟨n, by omega, h, hp⟩
      · rintro ⟨i, hi, e, h⟩
        by_cases en : i = n
        · subst en; exact .inr (by simp [e])
        · exact .inl ⟨i, by omega, e, h⟩
    · rename_i hp
      rw [belowL_mem (n := n)]
      constructor
      · rintro ⟨i, hi, e, h⟩; exact ⟨i, by omega, e, h⟩
      · rintro ⟨i, hi, e, h⟩
        by_cases en : i = n
        · subst en; exact absurd h hp
        · exact ⟨i, by omega, e, h⟩

/-- A list of numbers stands at A. -/
def IntsAt (w : World) (A : Option Addr) (zs : List Int) : Prop :=
  0 < zs.length → ∃ ad, A = some ad ∧ ∀ i, i < zs.length → w.cell? (ad.add i) = some (.int .i64 (zs.getD i 0))
theorem IntsAt.later {w w' : World} {A : Option Addr} {zs : List Int} (h : IntsAt w A zs) (hb : Below w.heap.size w w') : IntsAt w' A zs := fun hn => by
  obtain ⟨ad, e, hc⟩ := h hn
  exact ⟨ad, e, fun i hi => cell_later hb (hc i hi)⟩
theorem IntsAt.alloc {w : World} {A : Option Addr} {zs : List Int} (h : IntsAt w A zs) (o : Obj) : IntsAt (w.alloc o) A zs := fun hn => by
  obtain ⟨ad, e, hc⟩ := h hn
  exact ⟨ad, e, fun i hi => cell_alloc (hc i hi)⟩
theorem IntsAt.at_ {w : World} {A : Option Addr} {zs : List Int} (h : IntsAt w A zs) {i : Nat} (hi : i < zs.length) : ∃ ad, A = some ad ∧ w.cell? (ad.add i) = some (.int .i64 (zs.getD i 0)) := by
  obtain ⟨ad, e, hc⟩ := h (by omega)
  exact ⟨ad, e, hc i hi⟩
theorem ints_of_own {w : World} {base : Nat} {v : Value} {n : Nat} {zs : List Int} (h : w.ownsRow base 3 1 v n (zs.map (Value.int .i64))) : ∃ A c, v = .slice A zs.length c ∧ IntsAt w A zs := by
  have hl : zs.length = n := by simpa using h.1
  subst hl
  rcases h.2 with ⟨rfl, h0⟩ | ⟨g, cap, cur, rfl, _, _, hc, _⟩
  · exact ⟨none, 0, by rw [h0], fun h => absurd h (by omega)⟩
  · refine ⟨_, cap, rfl, fun _ => ⟨_, rfl, fun i hi => h.cells (g := g) rfl i _ ?_⟩⟩
    simp [List.getElem?_map, List.getElem?_eq_getElem hi]

theorem own_later {w w' : World} {base : Nat} {e : TypeId} {size : Nat} {v : Value} {n : Nat} {xs : List Value} (h : w.ownsRow base e size v n xs) (hb : Below w.heap.size w w') : w'.ownsRow base e size v n xs :=
  h.kept (row := none) ⟨hb.os, hb.tape, hb.output, hb.size, fun i hi _ => hb.block i hi⟩ (by cases v.ownBlock <;> simp)

/-- A list of numbers is answered. -/
def IntsOut (w : World) (zs : List Int) (e : Ending) (w' : World) : Prop := ∃ A c, e = .returned (.slice A zs.length c) ∧ IntsAt w' A zs ∧ Below w.heap.size w w'

/-- The middle of a walk that collects: k have been looked at. -/
def CollRel (W : World) (p : Nat → Bool) (n : Nat) (v i : Value) (wr : World) : Prop :=
  ∃ k : Nat, k ≤ n ∧ i = .int .i64 k ∧ wr.ownsRow W.heap.size 3 1 v (belowL p k).length ((belowL p k).map (Value.int .i64)) ∧ Below W.heap.size W wr

theorem coll_no {W wr : World} {p : Nat → Bool} {n k : Nat} {v : Value} (hk : k < n) (hp : p k = false) (ho : wr.ownsRow W.heap.size 3 1 v (belowL p k).length ((belowL p k).map (Value.int .i64))) (hB : Below W.heap.size W wr) :
    CollRel W p n v (.int .i64 ((k + 1 : Nat) : Int)) wr := by
  refine ⟨k + 1, by omega, rfl, ?_, hB⟩
  have e : belowL p (k + 1) = belowL p k := by simp [belowL, hp]
  rw [e]; exact ho
theorem coll_yes {W wr : World} {p : Nat → Bool} {n k : Nat} {v : Value} (hk : k < n) (hp : p k = true) (ho : wr.ownsRow W.heap.size 3 1 v ((belowL p k).length + 1) ((belowL p k).map (Value.int .i64) ++ [.int .i64 k])) (hB : Below W.heap.size W wr) :
    CollRel W p n v (.int .i64 ((k + 1 : Nat) : Int)) wr := by
  refine ⟨k + 1, by omega, rfl, ?_, hB⟩
  have e : belowL p (k + 1) = belowL p k ++ [(k : Int)] := by simp [belowL, hp]
  rw [e]
  simpa using ho

theorem one_cell_new (w : World) (x : Value) (t : TypeId) : ∀ j u, [x][j]? = some u → (w.alloc (.cells #[x] t)).cell? ((⟨w.heap.size, 0, none⟩ : Addr).add j) = some u := by
  intro j u hu
  rcases j with _ | j
  · obtain rfl : x = u := by simpa using hu
    simp [go_sem, Addr.add]
  · simp at hu

theorem info_int : (Try.prog.info? 3).map (fun i => (i.zero, i.size, i.bytes)) = some (some (.int .i64 0), 1, 8) := by kernel_rfl

section
variable {R n m : Nat} {lv st pt al au : Nat → Int} {w : World}

set_option maxHeartbeats 1000000 in
theorem below_is (h : RosAt w R n m lv st pt al au) (l s : Int) :
    Calls Try.prog 21 #[.pointer (some ⟨R, 0, none⟩), .agg #[.int .i64 l, .int .u16 s]] w (IntsOut w (belowL (fun i => leqB (lv i) (st i) l s) n)) := by
  obtain ⟨i0, hi, hz0, hz1, hz2⟩ := info_parts info_int
  obtain ⟨A, c, B, d, h1, h2, h3, h4, h5, h6⟩ := h
  replace h1 : (w.alloc (.cells #[.int .i64 l, .int .u16 s] 26)).cell? ⟨R, 0, none⟩ = some (.slice A n c) := cell_alloc h1
  have HL := Lib.hid (h3.alloc (.cells #[.int .i64 l, .int .u16 s] 26))
  have b0 : (w.alloc (.cells #[.int .i64 l, .int .u16 s] 26)).cell? ⟨w.heap.size, 0, none⟩ = some (.int .i64 l) := by simp [go_sem]
  have b1 : (w.alloc (.cells #[.int .i64 l, .int .u16 s] 26)).cell? ⟨w.heap.size, 1, none⟩ = some (.int .u16 s) := by simp [go_sem]
  have hW : Below w.heap.size w (w.alloc (.cells #[.int .i64 l, .int .u16 s] 26)) := (Below.refl _ _).alloc (Nat.le_refl _) _
  clear h2 h3 h4
  go_enter Try.func21, Try.ntmps21
  go_wp2_with fail
  generalize w.alloc (.cells #[.int .i64 l, .int .u16 s] 26) = W at *
  go_loopw [5, 15] (CollRel W (fun i => leqB (lv i) (st i) l s) n) (fun _ i _ => n - (intOf i).toNat)
  case atStart => exact ⟨0, by omega, rfl, World.ownsRow_nil _ _ _ _, Below.refl _ _⟩
  case round =>
    obtain ⟨k, hk, rfl, hown, hB⟩ := hrel
    by_cases hlt : k < n
    · obtain ⟨ad, rfl, c0, c1⟩ := (HL.out.later hB).at_ hlt
      have d0 : (wr.alloc (.cells #[.int .i64 (lv k), .int .u16 (st k)] 26)).cell? ⟨w.heap.size, 0, none⟩ = some (.int .i64 l) := cell_alloc (cell_later hB b0)
      have d1 : (wr.alloc (.cells #[.int .i64 (lv k), .int .u16 (st k)] 26)).cell? ⟨w.heap.size, 1, none⟩ = some (.int .u16 s) := cell_alloc (cell_later hB b1)
      have hlen := belowL_len (fun i => leqB (lv i) (st i) l s) k
      cases hs : leqB (lv k) (st k) l s
      · go_wp2_with (go_at_call 30; refine (leq_is _ _ _ _ false hs _).mono ?_; rintro e w1 ⟨rfl, hb⟩)
        have hB1 := below_step (hB.alloc hB.size _) hb
        have ho1 := own_later (hown.alloc _) hb
        go_roundw
        case rel => exact coll_no (p := fun i => leqB (lv i) (st i) l s) hlt hs ho1 hB1
        case measure => simp [intOf]; omega
      · have HO := Lib.hid hown
        clear hown
        go_wp2_with (first
          | (go_at_call 30; refine (leq_is _ _ _ _ true hs _).mono ?_; rintro e w1 ⟨rfl, hb⟩; have hB1 := below_step (hB.alloc hB.size _) hb; have HO1 := Lib.hid (own_later (HO.out.alloc _) hb))
          | (at_builtin; refine wpList_append_own _ rfl _ _ 46 rfl W.heap.size 3 i0 _ 1 8 Try.underlying46 hi hz0 hz1 hz2 rfl (by omega) u5 (belowL (fun i => leqB (lv i) (st i) l s) k).length ((belowL (fun i => leqB (lv i) (st i) l s) k).map (Value.int .i64)) rfl (HO1.out.alloc _) ⟨w1.heap.size, 0, none⟩ 1 1 [.int .i64 (k : Int)] rfl rfl (one_cell_new w1 _ _) (by simp [Value.oneCell']) (by unfold maxLen; omega) (by omega) (by have := hB1.size; simp; omega) ?_; intro v2 w2 hown2 hg2 _))
        have hB2 := (hB1.alloc hB1.size _).grown hg2 (by have := hB1.size; simp; omega) (fun q hq => (HO.out.lt q hq).1)
        go_roundw
        case rel => exact coll_yes (p := fun i => leqB (lv i) (st i) l s) hlt hs hown2 hB2
        case measure => simp [intOf]; omega
    · obtain rfl : k = n := by omega
      go_wp2_with fail
      obtain ⟨A', c', rfl, hints⟩ := ints_of_own hown
      go_ret
      exact ⟨A', c', rfl, hints, below_step hW hB⟩

end
end Go.Proofs.Ytnehcaefafdiaaa
