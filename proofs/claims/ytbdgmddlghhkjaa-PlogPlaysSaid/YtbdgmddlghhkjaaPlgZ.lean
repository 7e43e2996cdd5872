/-
  Plain facts of PlogPlays: the log that the document opens of what a disk keeps is the one that stands; a region's condition made stronger. No conditions but those named.
-/
import Derived.Test.YtbdgmddlghhkjaaPlgOp
import Derived.Test.YtbdgmddlghhkjaaPlgSec
namespace Go.Proofs.Ytbdgmddlghhkjaa
open Go.RowKit

section
variable {P : Program} {ops : Array Oper} {md : Region.Mode} {Q : Exit → Act → World → Prop} {S S' : World → Prop}
/-- A stronger condition from here on. -/
theorem held_more (hS : ∀ w, S' w → S w) : ∀ (fuel : Nat) (listed : Array Bool) (a : Act) (w : World), wpAnyH P md ops Q S' fuel listed a w → wpAnyH P md ops Q S fuel listed a w
  | 0, _, _, _, h => h
  | fuel + 1, _, _, _, h => ⟨h.1, fun i hi => wpOp_mono (fun a' w' h' => ⟨hS _ h'.1, held_more hS fuel _ a' w' h'.2⟩) (h.2 i hi)⟩
end

section
variable {rd rd' : Int → ByteArray} {b half par x : Int} {cur out : LogV}
theorem half_shift (h : ∀ i, 0 ≤ i → i < x + half → rd' i = rd (b + i)) (hx : 0 ≤ x) (k : HalfR rd' x half par cur out) : HalfR rd (b + x) half par cur out := by
  rcases k with ⟨g, s, recs, nx, a1, a2, a3, a4, a5, a6⟩ | ⟨a1, a2⟩
  · have h1 := (stands_shift h hx).1 a4
    have h2 := recs_shift h a5 (by omega)
    refine .inl ⟨g, s, recs, b + nx, a1, a2, a3, ?_, ?_, ?_⟩
    · rw [show b + x + half = b + (x + half) by omega]; exact h1
    · rw [show b + x + half = b + (x + half) by omega, show b + x + (cntN s.size : Int) = b + (x + (cntN s.size : Int)) by omega]; exact h2
    · rw [a6, show b + nx - (b + x) = nx - x by omega]
  · refine .inr ⟨fun g s g1 g2 g3 hs => a1 g s g1 g2 g3 ((stands_shift h hx).2 ?_), a2⟩
    rw [show b + (x + half) = b + x + half by omega]; exact hs
theorem InvP.opens2 {k : Nat} {c : PCfg} {K : LogV} {st : Dk} (h : InvP k c K st) {o1 o2 : LogV} (h1 : HalfR (rdK st.kept) c.base c.half 1 noLog o1) (h2 : HalfR (rdK st.kept) (c.base + c.half) c.half 0 o1 o2) : o2 = K := by
  rcases open_ok h.log h1 h2 with ⟨e1, e2⟩ | ⟨e1, e2⟩
  · rw [e2, h.none e1]
  · rw [e2]
    obtain ⟨g, bs, recs, at_⟩ := K
    simp only [LogV.mk.injEq, true_and]
    omega
theorem secL_at {st : Dk} {b : Int} {n : Nat} {i : Int} (h0 : 0 ≤ i) (h1 : i < n) : rdL (secL st b n) i = rdK st.kept (b + i) := by
  unfold rdL secL
  rw [List.getElem?_map, List.getElem?_range (by omega)]
  simp only [Option.map_some, Option.getD_some]
  rw [show ((i.toNat : Nat) : Int) = i by omega]
/-- The document's log of what a disk keeps is the one that stands. -/
theorem ref_opens {k H N : Nat} {c : PCfg} {K o : LogV} {st : Dk} (h : InvP k c K st) (hH : c.half = H) (hN : N = H + H) (ho : OpR (rdL (secL st c.base N)) H 2 o) : o = K := by
  obtain ⟨o1, k1, k2⟩ := ho.ends
  have j1 := half_shift (rd := rdK st.kept) (b := c.base) (fun i h0 h1 => secL_at h0 (by omega)) (Int.le_refl 0) k1
  have j2 := half_shift (rd := rdK st.kept) (b := c.base) (fun i h0 h1 => secL_at h0 (by omega)) (by omega) k2
  rw [Int.add_zero] at j1
  rw [← hH] at j1 j2
  exact h.opens2 j1 j2
theorem appendR_half (L : LogR) (rec after : ByteArray) : (appendR L rec after).1.half = L.half := by
  unfold appendR
  split
  · rfl
  · split
    · rfl
    · split
      · rfl
      · rfl
theorem at_count5 (n : Int) : ∃ m : Nat, wrap64 ((IntKind.u64.wrap n).tmod 5) = m ∧ m < 5 := by
  have h0 : 0 ≤ IntKind.u64.wrap n := by rw [IntKind.wrap_u64]; omega
  have e : (IntKind.u64.wrap n).tmod 5 = IntKind.u64.wrap n % 5 := Int.tmod_eq_emod_of_nonneg h0
  rw [e]
  generalize IntKind.u64.wrap n = z at h0
  refine ⟨(z % 5).toNat, ?_, by omega⟩
  unfold wrap64
  omega
end
end Go.Proofs.Ytbdgmddlghhkjaa
