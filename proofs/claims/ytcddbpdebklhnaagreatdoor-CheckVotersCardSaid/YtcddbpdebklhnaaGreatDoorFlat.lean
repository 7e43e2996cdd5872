/-
  Numbers in memory, by block and place. No conditions.
-/
import Derived.Test.YtcddbpdebklhnaaGreatDoorManT
namespace Go.Proofs.YtcddbpdebklhnaaGreatDoor
open Go.RowKit

theorem spot_none {w : World} {p : Addr} {v : Value} (h : w.cell? p = some v) : p.spot = none := by
  obtain ⟨b, o, s⟩ := p
  unfold World.cell? at h
  cases s with
  | none => rfl
  | some x => split at h <;> cases h
theorem NatsAt.flat {w : World} {A : Option Addr} {l : List Nat} (h : NatsAt w A l) (hl : 0 < l.length) : ∃ b o, A = some ⟨b, o, none⟩ ∧ ∀ j, j < (l.map Int.ofNat).length → w.cell? ⟨b, o + j, none⟩ = some (.int .i64 ((l.map Int.ofNat).getD j 0)) := by
  obtain ⟨ad, rfl, hc⟩ := h hl
  have h0 := hc 0 _ (List.getElem?_eq_getElem hl)
  have hs : ad.spot = none := by
    have := spot_none h0
    simpa [Addr.add] using this
  obtain ⟨b, o, s⟩ := ad
  obtain rfl : s = none := hs
  refine ⟨b, o, rfl, fun j hj => ?_⟩
  rw [List.length_map] at hj
  have h1 := cell_of (p := (⟨b, o, none⟩ : Addr).add j) (q := ⟨b, o + j, none⟩) (add_block _ _) (add_off _ _) rfl (hc j _ (List.getElem?_eq_getElem hj))
  rw [h1, List.getD_eq_getElem?_getD, List.getElem?_map, List.getElem?_eq_getElem hj]
  rfl
theorem one_cell_new (w : World) (x : Value) (t : TypeId) : ∀ j u, [x][j]? = some u → (w.alloc (.cells #[x] t)).cell? ((⟨w.heap.size, 0, none⟩ : Addr).add j) = some u := by
  intro j u hu
  rcases j with _ | j
  · obtain rfl : x = u := by simpa using hu
    simp [go_sem, Addr.add]
  · simp at hu
abbrev natV (l : List Nat) : List Value := l.map fun n => Value.int .i64 (n : Nat)
end Go.Proofs.YtcddbpdebklhnaaGreatDoor
