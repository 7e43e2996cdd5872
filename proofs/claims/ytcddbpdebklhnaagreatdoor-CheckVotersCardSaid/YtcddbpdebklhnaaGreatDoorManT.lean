/-
  What the document's Same (package lockageref08) answers. Conditions: a million tasks at most, each behind a million at most.
-/
import Derived.Test.YtcddbpdebklhnaaGreatDoorManR
import Derived.Test.YtcddbpdebklhnaaGreatDoorManS
import Derived.BigQuiet
import Derived.Deep.QuietTactic
namespace Go.Proofs.YtcddbpdebklhnaaGreatDoor
open Go.RowKit

theorem cell_of {w : World} {p q : Addr} {v : Value} (hb : p.block = q.block) (ho : p.off = q.off) (hq : q.spot = none) (h : w.cell? p = some v) : w.cell? q = some v := by
  unfold World.cell? at h ⊢
  rw [hb, ho] at h
  rw [hq]
  split at h
  · split at h
    · cases h
    · simpa using h
  · cases h
theorem add_block (ad : Addr) (k : Nat) : (ad.add k).block = ad.block := by unfold Addr.add; split <;> rfl
theorem add_off (ad : Addr) (k : Nat) : (ad.add k).off = ad.off + k := by
  unfold Addr.add
  split
  · omega
  · rfl
theorem TksAt.at_ {w : World} {A : Option Addr} {ts : List TkP} (h : TksAt w A ts) {i : Nat} {t : TkP} (hi : ts[i]? = some t) :
    ∃ ad B c, A = some ad ∧ w.cell? (ad.add (i * 7)) = some (.string t.name) ∧ (∀ (j : Nat) (v : Value), (tkC t (.slice B t.after.length c))[j]? = some v → w.cell? ⟨(ad.add (i * 7)).block, (ad.add (i * 7)).off + j, none⟩ = some v) ∧ NatsAt w B t.after ∧ t.after.length ≤ c := by
  obtain ⟨ad, e, hc⟩ := h (by have := (List.getElem?_eq_some_iff.1 hi).1; omega)
  obtain ⟨B, c, h1, h2, h3⟩ := hc i t hi
  refine ⟨ad, B, c, e, h1 0 _ rfl, fun j v hj => ?_, h2, h3⟩
  exact cell_of (by rw [add_block, add_block]) (by simp only [add_off]; omega) rfl (h1 j v hj)
/-- A task's numbers but those of After, its name. -/
def headS (t u : TkP) : Bool := decide (t.name = u.name ∧ t.retry = u.retry ∧ t.time = u.time ∧ t.need = u.need ∧ t.lv = u.lv ∧ t.st = u.st ∧ t.after.length = u.after.length)
theorem sameT_head {t u : TkP} (h : headS t u = false) : sameT t u = false := by
  cases hs : sameT t u with
  | false => rfl
  | true =>
    obtain rfl := sameT_iff.1 hs
    rw [← h, headS, eq_comm]
    exact decide_eq_true ⟨rfl, rfl, rfl, rfl, rfl, rfl, rfl⟩
theorem sameT_after {t u : TkP} (h : headS t u = true) : sameT t u = decide (t.after = u.after) := by
  obtain ⟨h1, h2, h3, h4, h5, h6, _⟩ := of_decide_eq_true h
  simp [sameT, h1, h2, h3, h4, h5, h6]
abbrev tkA (t : TkP) (B : Option Addr) (c : Nat) : Array Value := #[.string t.name, .slice B t.after.length c, .int .i64 t.retry, .int .i64 t.time, .int .i64 t.need, .int .i64 t.lv, .int .u16 t.st]

theorem Below.drewN_ {w W : World} {n : Nat} (h : Below n w W) (k : Nat) : Below n w (W.drewN k) := ⟨h.os, h.tape, h.output, h.size, h.block⟩
theorem two_made (w : World) (o1 o2 : Obj) : ((w.alloc o1).alloc o2).drew.heap[w.heap.size]? = some o1 ∧ ((w.alloc o1).alloc o2).drew.heap[w.heap.size + 1]? = some o2 ∧ Below w.heap.size w ((w.alloc o1).alloc o2).drew := by
  have b1 := (Below.refl w.heap.size w).alloc (Nat.le_refl _) o1
  have b2 := (Below.refl _ (w.alloc o1)).alloc (Nat.le_refl _) o2
  have m2 := made_at (w.alloc o1) o2
  rw [World.size_alloc] at m2
  exact ⟨later_at b2.drew (made_at w o1), m2, (below_step b1 b2).drew⟩
section
variable {w : World} {A B : Option Addr} {c d : Nat} {n m : ByteArray} {ts us : List TkP}
end
end Go.Proofs.YtcddbpdebklhnaaGreatDoor
