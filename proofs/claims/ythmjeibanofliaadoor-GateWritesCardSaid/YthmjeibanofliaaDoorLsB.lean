/-
  Memory facts that layers 11 and 12 use: rows of the call's own, cells, numbers in a row. No program is named here but for int.
-/
import Derived.Test.YthmjeibanofliaaDoorCodBa
import Derived.Test.YthmjeibanofliaaDoorPhaseB
import Derived.Test.YthmjeibanofliaaDoorProg
import Derived.Laws.AppendOwn
import Derived.WalkKit
import Derived.WalkSpells
import Derived.OwnWalk
import Derived.Below
import Derived.Lib.Hide
import Derived.Outline
import Derived.Deep.DeepCutAuto
import Derived.KernelRfl
namespace Go.Proofs.YthmjeibanofliaaDoor
open Go.RowKit

theorem own_agree {base : Nat} {e : TypeId} {size n : Nat} {v : Value} {xs : List Value} {W W' : World} (h : W.ownsRow base e size v n xs) (ha : ∀ q, base ≤ q → q < W.heap.size → W'.heap[q]? = W.heap[q]?) : W'.ownsRow base e size v n xs := by
  obtain ⟨hl, h⟩ := h
  refine ⟨hl, h.imp id ?_⟩
  rintro ⟨q, cap, cur, rfl, hb, hq, h1⟩
  exact ⟨q, cap, cur, rfl, hb, (ha q hb (Array.getElem?_eq_some_iff.1 hq).1).trans hq, h1⟩
theorem own_frame {base : Nat} {e : TypeId} {size n : Nat} {v : Value} {xs : List Value} {W W' : World} (h : W.ownsRow base e size v n xs) (ha : ∀ q cur, base ≤ q → W.heap[q]? = some (.cells cur e (0, 0)) → W'.heap[q]? = W.heap[q]?) : W'.ownsRow base e size v n xs := by
  obtain ⟨hl, h⟩ := h
  refine ⟨hl, h.imp id ?_⟩
  rintro ⟨q, cap, cur, rfl, hb, hq, h1⟩
  exact ⟨q, cap, cur, rfl, hb, (ha q cur hb hq).trans hq, h1⟩
theorem own_tag {base : Nat} {e : TypeId} {size n : Nat} {v : Value} {xs : List Value} {W : World} (h : W.ownsRow base e size v n xs) {g : Nat} (hg : v.ownBlock = some g) : base ≤ g ∧ ∃ cur, W.heap[g]? = some (.cells cur e (0, 0)) := by
  rcases h.2 with ⟨rfl, _⟩ | ⟨q, cap, cur, rfl, hb, hq, _⟩
  · simp [Value.ownBlock] at hg
  · obtain rfl : q = g := by simpa [Value.ownBlock] using hg
    exact ⟨hb, cur, hq⟩
theorem info_int : (Tryd.prog.info? 3).map (fun i => (i.zero, i.size, i.bytes)) = some (some (.int .i64 0), 1, 8) := by kernel_rfl

/-- A list of numbers stands at A. -/
def IntsL (w : World) (A : Option Addr) (zs : List Int) : Prop :=
  0 < zs.length → ∃ ad, A = some ad ∧ ∀ i, i < zs.length → w.cell? (ad.add i) = some (.int .i64 (zs.getD i 0))
theorem IntsL.later {w w' : World} {A : Option Addr} {zs : List Int} (h : IntsL w A zs) (hb : Below w.heap.size w w') : IntsL w' A zs := fun hn => by
  obtain ⟨ad, e, hc⟩ := h hn
  exact ⟨ad, e, fun i hi => cell_later hb (hc i hi)⟩
theorem IntsL.at_ {w : World} {A : Option Addr} {zs : List Int} (h : IntsL w A zs) {i : Nat} (hi : i < zs.length) : ∃ ad, A = some ad ∧ w.cell? (ad.add i) = some (.int .i64 (zs.getD i 0)) := by
  obtain ⟨ad, e, hc⟩ := h (by omega)
  exact ⟨ad, e, hc i hi⟩
theorem intsL_of_own {w : World} {base : Nat} {v : Value} {n : Nat} {zs : List Int} (h : w.ownsRow base 3 1 v n (zs.map (Value.int .i64))) : ∃ A c, v = .slice A zs.length c ∧ IntsL w A zs := by
  have hl : zs.length = n := by simpa using h.1
  subst hl
  rcases h.2 with ⟨rfl, h0⟩ | ⟨g, cap, cur, rfl, _, _, hc, _⟩
  · exact ⟨none, 0, by rw [h0], fun h => absurd h (by omega)⟩
  · refine ⟨_, cap, rfl, fun _ => ⟨_, rfl, fun i hi => h.cells (g := g) rfl i _ ?_⟩⟩
    simp [List.getElem?_map, List.getElem?_eq_getElem hi]

theorem info_all {t : TypeId} {z : Option Value} {n b : Nat} (h : (Tryd.prog.info? t).map (fun i => (i.zero, i.size, i.bytes)) = some (z, n, b)) : ∃ i, Tryd.prog.info? t = some i ∧ i.zero = z ∧ i.size = n ∧ i.bytes = b := by
  cases hi : Tryd.prog.info? t with
  | none => rw [hi] at h; exact absurd h (by simp)
  | some i =>
    rw [hi] at h
    simp only [Option.map_some, Option.some.injEq, Prod.mk.injEq] at h
    exact ⟨i, rfl, h.1, h.2.1, h.2.2⟩
theorem cell_alloc {w : World} {a : Addr} {v : Value} {o : Obj} (h : w.cell? a = some v) : (w.alloc o).cell? a = some v := by
  rw [World.cell?_alloc_lt _ _ _ (World.block_lt_of_cell? _ _ h)]; exact h

theorem add_off (ad : Addr) (k : Nat) : (ad.add k).off = ad.off + k := by
  unfold Addr.add
  split
  · omega
  · rfl
theorem cell_of {w : World} {p q : Addr} {v : Value} (hb : p.block = q.block) (ho : p.off = q.off) (hq : q.spot = none) (h : w.cell? p = some v) : w.cell? q = some v := by
  unfold World.cell? at h ⊢
  rw [hb, ho] at h
  rw [hq]
  split at h
  · split at h
    · cases h
    · simpa using h
  · cases h
theorem Below.drewN_ {w W : World} {n : Nat} (h : Below n w W) (k : Nat) : Below n w (W.drewN k) := ⟨h.os, h.tape, h.output, h.size, h.block⟩
end Go.Proofs.YthmjeibanofliaaDoor
