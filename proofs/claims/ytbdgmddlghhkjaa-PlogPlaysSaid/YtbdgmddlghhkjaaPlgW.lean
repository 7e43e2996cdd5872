/-
  Lists of texts that come in as arguments, opened; a log and rows of texts beside each other, framed. No conditions but how they lie.
-/
import Derived.Test.YtbdgmddlghhkjaaPlgV
import Derived.ProofKit
import Derived.OpenShut
import Derived.ChangeOld
import Derived.Deep.Slices
import Derived.SliceStrings
import Derived.Lib.SmallJoins
namespace Go.Proofs.Ytbdgmddlghhkjaa
open Go.ChangeShapes Go.WideShapes Go.ChangeAt Go.RowKit Go.Joins Go.Deep

section
variable {H : Type} {enc : TypeId × Value → H} {w : World} {base : Nat} {spare : Nat → Bool} {held : Bool}
theorem cellsS : Try.prog.cellsOf 9 = 1 := by kernel_rfl
theorem texts_open {fuel : Nat} {A : Option Addr} {n c : Nat} {x : DataW H × List MemPlace} (h : DataW.trod enc Try.prog w base spare held fuel 35 [.slice A n c] = some x) :
    ∃ L : List ByteArray, L.length = n ∧ TextsAt w A L ∧ (A = none → n = 0 ∧ c = 0) ∧ ∀ t ∈ L, t.size ≤ maxLen := by
  rcases open_strings Try.underlying35 Try.underlying9 cellsS h with ⟨h0, _⟩ | ⟨a, len, cap, ss, hcs, _, hl, _, hss, _, hc, hz⟩
  · injection h0 with h0
    injection h0 with hA hn hc
    subst hA hn hc
    exact ⟨[], rfl, fun h => absurd h (by simp), fun _ => ⟨rfl, rfl⟩, fun t ht => by cases ht⟩
  · injection hcs with hcs
    injection hcs with hA hn hc'
    subst hA hn hc'
    have hm : n ≤ ss.length := by rw [hss]; split <;> omega
    refine ⟨ss.take n, by rw [List.length_take]; omega, fun _ => ⟨a, rfl, fun i t ht => ?_⟩, ⟨fun h => (by cases h), fun t ht => hz t (List.mem_of_mem_take ht)⟩⟩
    have hi : i < n := by have := (List.getElem?_eq_some_iff.1 ht).1; rw [List.length_take] at this; omega
    rw [List.getElem?_take_of_lt hi] at ht
    have h1 := hc i (by omega)
    rw [List.getD_eq_getElem?_getD, ht] at h1
    exact h1
end

section
variable {w w' : World} {base b D B k n : Nat} {c : PCfg} {K : LogV} {st : Dk} {v u : Value} {P : Nat → Prop} {xs : List Value}
theorem LogM.only (h : LogM w base D B k c K st v) (ho : OnlyP P w w') (hB : ¬ P B) (hv : ∀ g, v.ownBlock = some g → ¬ P g) (hP : ∀ i cs t m, P i → w.heap[i]? = some (.cells cs t m) → progT t = false) : LogM w' base D B k c K st v :=
  ⟨h.plog.frame ho hB hv, diskAt_only h.disk ho hP, h.inv⟩
/-- A row of texts that is not the log's. -/
theorem own_apart (h : w.ownsRow b 9 1 u n xs) (hp : PlgAt w base D B c K v) (hne : ∀ g, u.ownBlock = some g → v.ownBlock ≠ some g) {b' : Nat} : ∀ g, u.ownBlock = some g → ¬ (g = B ∨ v.ownBlock = some g ∨ dskU b' w g) := fun g hg => by
  obtain ⟨_, cs, e⟩ := own_type h hg
  rintro (rfl | h2 | ⟨_, cs', t', m, e', ht'⟩)
  · rw [hp.1] at e
    injection e with e
    injection e with _ e
    exact absurd e (by decide)
  · exact hne g hg h2
  · rw [e'] at e
    injection e with e
    injection e with _ e
    rw [e] at ht'
    exact absurd ht' (by decide)
/-- What an append to such a row changes is neither the log nor the disk. -/
theorem LogM.grown (h : LogM w base D B k c K st v) (hu : w.ownsRow b 9 1 u n xs) (hg : w.grownBy w' u.ownBlock) (hne : ∀ g, u.ownBlock = some g → v.ownBlock ≠ some g) : LogM w' base D B k c K st v := by
  have ho : OnlyP (fun i => u.ownBlock = some i) w w' := OnlyP.refl.grown hg (fun g hg => .inl hg)
  refine h.only ho (fun q => own_apart hu h.plog hne (b' := 0) _ q (.inl rfl)) (fun g hg q => hne g q hg) (fun i cs t m hi he => ?_)
  obtain ⟨_, cs', e⟩ := own_type hu hi
  rw [he] at e
  injection e with e
  injection e with _ e
  rw [e]
  decide
theorem LogM.lts (h : LogM w base D B k c K st v) : B < w.heap.size ∧ ∀ g, v.ownBlock = some g → g < w.heap.size := ⟨h.plog.blt, h.plog.vlt⟩
theorem own_lt (h : w.ownsRow b 9 1 u n xs) {g : Nat} (hg : u.ownBlock = some g) : g < w.heap.size := by
  obtain ⟨_, cs, e⟩ := own_type h hg
  exact (Array.getElem?_eq_some_iff.1 e).1
theorem own_texts {W : World} {b m : Nat} {v : Value} {L : List ByteArray} (h : W.ownsRow b 9 1 v m (txV L)) (hm : m = L.length) : ∃ A c, v = .slice A m c ∧ TextsAt W A L := by
  subst hm
  have h0 := own_mono h (Nat.zero_le _)
  obtain ⟨A, c, e, ht⟩ := own_as h0
  exact ⟨A, c, e, ht⟩
end

theorem texts_later {w w' : World} {A : Option Addr} {L : List ByteArray} (hb : Below w.heap.size w w') (h : TextsAt w A L) : TextsAt w' A L := fun hn => by
  obtain ⟨ad, e, hc⟩ := h hn
  exact ⟨ad, e, fun i s hi => cell_later hb (hc i s hi)⟩
theorem take_more {L : List ByteArray} {k : Nat} {t : ByteArray} (h : L[k]? = some t) : L.take (k + 1) = L.take k ++ [t] := by
  rw [List.take_add_one, h]
  rfl
end Go.Proofs.Ytbdgmddlghhkjaa
