/-
  A loop over a function that keeps its place in variables of its own ('bad': their blocks): what the function is asked for (Iter), what the loop's body is, and what stands behind the loop. No program is named here.
-/
import Derived.RangeFuncNested
import Derived.RangeFuncLeaves
import Derived.RangeFuncBound
import Derived.Below
namespace Go.Proofs.YtcddbpdebklhnaaGreatDoor
open Go Go.RowKit

/-- What lay outside the blocks 'bad' lies as it lay. -/
structure Apart (bad : Nat → Prop) (W W' : World) : Prop where
  os : W'.os = W.os
  tape : W'.tape = W.tape
  output : W'.output = W.output
  size : W.heap.size ≤ W'.heap.size
  block : ∀ b, b < W.heap.size → ¬ bad b → W'.heap[b]? = W.heap[b]?
/-- The blocks 'bad' lie as they lay. -/
structure Keeps (bad : Nat → Prop) (W W' : World) : Prop where
  size : W.heap.size ≤ W'.heap.size
  block : ∀ b, bad b → b < W.heap.size → W'.heap[b]? = W.heap[b]?
section
variable {bad bad2 : Nat → Prop} {W W' V : World}
theorem Apart.refl (bad : Nat → Prop) (W : World) : Apart bad W W := ⟨rfl, rfl, rfl, Nat.le_refl _, fun _ _ _ => rfl⟩
theorem Apart.trans (h : Apart bad W W') (k : Apart bad W' V) : Apart bad W V :=
  ⟨k.os.trans h.os, k.tape.trans h.tape, k.output.trans h.output, Nat.le_trans h.size k.size, fun b hb hn => (k.block b (Nat.lt_of_lt_of_le hb h.size) hn).trans (h.block b hb hn)⟩
theorem Apart.mono (h : Apart bad W W') (hb : ∀ b, bad b → bad2 b) : Apart bad2 W W' := ⟨h.os, h.tape, h.output, h.size, fun b hl hn => h.block b hl (fun hx => hn (hb b hx))⟩
theorem Apart.put {l : Nat} {o : Obj} (hb : bad l) : Apart bad W (W.putObj l o) := ⟨rfl, rfl, rfl, by simp, fun b _ hn => World.putObj_heap_other (fun e => hn (e ▸ hb))⟩
theorem Apart.set {B i : Nat} {v : Value} (hb : bad B) : Apart bad W (W.setCell ⟨B, i, none⟩ v) := ⟨rfl, rfl, rfl, by simp [World.setCell], fun b _ hn => Below.heap_setCell W ⟨B, i, none⟩ v b (fun e => hn (by rw [e]; exact hb))⟩
theorem Apart.more {o : Obj} : Apart bad W (W.alloc o) := ⟨rfl, rfl, rfl, by simp, fun b hl _ => Below.heap_alloc W o b hl⟩
theorem Apart.drew : Apart bad W W.drew := ⟨rfl, rfl, rfl, Nat.le_refl _, fun _ _ _ => rfl⟩
theorem Apart.below {n : Nat} (h : Apart bad W W') (hb : ∀ b, bad b → n ≤ b) (hn : n ≤ W.heap.size) : Below n W W' :=
  ⟨h.os, h.tape, h.output, h.size, fun k hk => h.block k (by omega) (fun hx => by have := hb k hx; omega)⟩
theorem Keeps.refl (bad : Nat → Prop) (W : World) : Keeps bad W W := ⟨Nat.le_refl _, fun _ _ _ => rfl⟩
theorem Keeps.trans (h : Keeps bad W W') (k : Keeps bad W' V) : Keeps bad W V := ⟨Nat.le_trans h.size k.size, fun b hb hl => (k.block b hb (Nat.lt_of_lt_of_le hl h.size)).trans (h.block b hb hl)⟩
theorem Keeps.of_below (h : Below W.heap.size W W') : Keeps bad W W' := ⟨h.size, fun b _ hl => h.block b hl⟩
theorem Keeps.set {B i : Nat} {v : Value} (hB : ∀ b, bad b → b < W.heap.size → b ≠ B) : Keeps bad W (W.setCell ⟨B, i, none⟩ v) := ⟨by simp [World.setCell], fun b hb hl => Below.heap_setCell W ⟨B, i, none⟩ v b (hB b hb hl)⟩
theorem Keeps.drew : Keeps bad W W.drew := ⟨Nat.le_refl _, fun _ _ _ => rfl⟩
theorem Keeps.grown {row : Option Nat} (h : W.grownBy W' row) (hr : ∀ b, bad b → b < W.heap.size → some b ≠ row) : Keeps bad W W' := ⟨h.size, fun b hb hl => h.block b hl (hr b hb hl)⟩
end

/-- What a function that is gone over is asked for: it hands over N elements one behind the other, unless a round says 'no more'; it changes nothing but its own blocks. -/
def Iter (F : Fence) (n : Nat) (P : Program) (g : Nat) (lb : Array Value) (bad : Nat → Prop) (encs : Nat → Array Value) (N : Nat) (w : World) : Prop :=
  ∀ (l : Nat) (J : Nat → World → Prop) (Jx : World → Prop) (W : World), Keeps bad w W →
    (∀ k A B, J k A → Apart bad A B → J k B) → (∀ A B, Jx A → Apart bad A B → Jx B) →
    (∀ k A, k < N → J k A → YieldAt F (n - 1) P l (encs k) A fun e B => (e = .returned (.bool true) ∧ J (k + 1) B ∧ Keeps bad A B) ∨ (e = .returned (.bool false) ∧ Jx B)) →
    J 0 W → CallsIn F n P g (#[.func (.yield l) #[] #[]] ++ lb) W fun e B => (∃ v, e = .returned v) ∧ (J N B ∨ Jx B)

/-- How a round's body is left: off its end, or by a return. -/
def roundLeft (bad : Nat → Prop) (I : World → Prop) (Ix : World → Prop) (W : World) : Exit → Act → World → Prop
  | .normal, _, B => Keeps bad W B ∧ I B
  | .ret, _, B => Keeps bad W B ∧ Ix B
  | _, _, _ => False

/-- The statement. -/
theorem wpIn_range {F : Fence} {n : Nat} {P : Program} {g : Operand} {ps : Array Tmp} {assign body : Code} {Q : Exit → Act → World → Prop} {a : Act} {w : World}
    (hro : F.round = none) (h1 : 1 ≤ n) {gf : Nat} {lb : Array Value} (hg : a.eval g = .func (.func gf) #[] lb) (hFg : F.fn gf) (eg : ∀ args w, (callFunc gf args).run P w = .ok (.enter gf args) w)
    {bad all : Nat → Prop} {encs : Nat → Array Value} {N : Nat} (hbad : ∀ b, bad b → b < w.heap.size) (hall : ∀ b, all b ↔ bad b ∨ b = w.heap.size ∨ b = w.heap.size + 1) (hseq : Iter F (n - 1) P gf lb bad encs N w) (hps : ∀ k, (encs k).size = ps.size)
    (I : Nat → World → Prop) (Ix : World → Prop) (Ax : Nat → Act → World → Prop)
    (hI : ∀ k A B, I k A → Apart all A B → I k B) (hIx : ∀ A B, Ix A → Apart all A B → Ix B) (hAx : ∀ k a' A B, Ax k a' A → Apart all A B → Ax k a' B) (h0 : I 0 w)
    (hassign : ∀ k W, k < N → w.heap.size + 1 < W.heap.size → I k W → assign.wpIn (F.inRound (w.heap.size + 1)) (n - 1 - 1) P (Exit.then (fun a' B => Keeps all W B ∧ Ax k a' B) (fun _ _ _ => False)) { tmps := (ps.zip (encs k)).foldl (fun t (p, v) => t.setIfInBounds p v) a.tmps, defers := [] } W)
    (hbody : ∀ k a' W, k < N → w.heap.size + 1 < W.heap.size → Ax k a' W → body.wpIn (F.inRound (w.heap.size + 1)) (n - 1 - 1) P (roundLeft all (I (k + 1)) Ix W) a' W)
    (hdone : ∀ W, I N W → W.heap[w.heap.size]? = some (.deferred (some [])) → Q .normal { a with defers := { target := .collected w.heap.size, args := #[] } :: a.defers } W)
    (hstop : ∀ W, Ix W → W.heap[w.heap.size]? = some (.deferred (some [])) → Code.ret.wpIn F n P Q { a with defers := { target := .collected w.heap.size, args := #[] } :: a.defers } W) :
    (Code.rangeFunc g ps assign body).wpIn F n P Q a w := by
  have allL : all (w.heap.size + 1) := (hall _).2 (.inr (.inr rfl))
  have allD : all w.heap.size := (hall _).2 (.inr (.inl rfl))
  have sub : ∀ b, bad b → all b := fun b hb => (hall b).2 (.inl hb)
  have nL : ¬ bad (w.heap.size + 1) := fun h => by have := hbad _ h; omega
  have nD : ¬ bad w.heap.size := fun h => by have := hbad _ h; omega
  refine wpIn_rangeFunc fun fn hfn => ?_
  obtain ⟨r, hr⟩ : ∃ r : LoopState → Option Code → Loop, r = fun st pe => { state := st, pending := pe, fn, tmps := a.tmps, params := ps, assign, body, defers := w.heap.size } := ⟨_, rfl⟩
  obtain ⟨V, hV⟩ : ∃ V, (w.alloc (.deferred (some []))).alloc (.loop (r .ready none)) = V := ⟨_, rfl⟩
  have apV : Apart all w V := by rw [← hV]; exact Apart.more.trans Apart.more
  have keV : Keeps bad w V := ⟨apV.size, fun b _ hl => by rw [← hV, Below.heap_alloc _ _ _ (by simp; omega), Below.heap_alloc _ _ _ hl]⟩
  have eL : V.heap[w.heap.size + 1]? = some (.loop (r .ready none)) := by
    rw [← hV]
    have := World.alloc_heap_new (w.alloc (.deferred (some []))) (.loop (r .ready none))
    rwa [World.size_alloc] at this
  have eD : V.heap[w.heap.size]? = some (.deferred (some [])) := by rw [← hV]; exact (Below.heap_alloc _ _ _ (by simp)).trans (World.alloc_heap_new w _)
  rw [hro]
  refine ⟨w.heap.size + 1, [{ target := .collected w.heap.size, args := #[] }], V, { target := .fn (.func gf) lb, args := #[.func (.yield (w.heap.size + 1)) #[] #[]] }, V, gf, #[.func (.yield (w.heap.size + 1)) #[] #[]] ++ lb, V, ?_, ?_, ?_, ?_, fun _ => h1, ?_⟩
  · rw [← hV, hr]; exact run_enterLoop_outer _ _ _ _ _
  · simp only [resolve, hg]; simp [go_sem]
  · intro f hf
    obtain rfl : gf = f := by simpa [Target.leads] using hf
    exact hFg
  · simp [invoke, go_sem, eg]
  -- what stands between two rounds, the loop's two blocks beside it
  have apart : ∀ {A B : World} {k : Nat} {o : Obj}, k = w.heap.size ∨ k = w.heap.size + 1 → A.heap[k]? = some o → Apart bad A B → B.heap[k]? = some o := fun hk h hb =>
    (hb.block _ (Array.getElem?_eq_some_iff.1 h).1 (by rcases hk with rfl | rfl <;> assumption)).trans h
  refine (hseq (w.heap.size + 1) (fun k W => I k W ∧ W.heap[w.heap.size + 1]? = some (.loop (r .ready none)) ∧ W.heap[w.heap.size]? = some (.deferred (some [])))
    (fun W => Ix W ∧ W.heap[w.heap.size + 1]? = some (.loop (r .done (some .ret))) ∧ W.heap[w.heap.size]? = some (.deferred (some []))) V keV
    (fun k A B ⟨i, l, d⟩ h => ⟨hI k A B i (h.mono sub), apart (.inr rfl) l h, apart (.inl rfl) d h⟩)
    (fun A B ⟨i, l, d⟩ h => ⟨hIx A B i (h.mono sub), apart (.inr rfl) l h, apart (.inl rfl) d h⟩) ?_ ⟨hI _ _ _ h0 apV, eL, eD⟩).mono ?_
  · rintro k W hk ⟨i, l, d⟩
    have hlt := (Array.getElem?_eq_some_iff.1 l).1
    have hy := run_yield (P := P) (args := encs k) l (by rw [hr]; exact hps k)
    rw [hr] at hy
    refine ⟨fn, _, assign, body, hy, roundIn_of_wpIn hfn (wpIn_mono (hassign k W hk hlt i) ?_)⟩
    rintro e a' A hA
    cases e with
    | normal =>
      obtain ⟨kA, xA⟩ := hA
      have lA := (kA.block _ allL hlt).trans l
      have hA1 := (Array.getElem?_eq_some_iff.1 lA).1
      refine ⟨_, run_beginRound lA (by rw [hr]), ?_⟩
      obtain ⟨B, hB⟩ : ∃ B, A.putObj (w.heap.size + 1) (.loop { r .ready none with state := .busy }) = B := ⟨_, rfl⟩
      rw [hB]
      have lB : B.heap[w.heap.size + 1]? = some (.loop { r .ready none with state := .busy }) := by rw [← hB]; exact World.putObj_heap_same hA1
      have dB : B.heap[w.heap.size]? = some (.deferred (some [])) := by rw [← hB]; exact (World.putObj_heap_other (by omega)).trans ((kA.block _ allD (by omega)).trans d)
      have sB : A.heap.size = B.heap.size := by rw [← hB]; simp
      have apB : Apart all A B := by rw [← hB]; exact Apart.put allL
      have bB : ∀ b, bad b → B.heap[b]? = A.heap[b]? := fun b hb => by rw [← hB]; exact World.putObj_heap_other (fun e => nL (e ▸ hb))
      refine wpIn_mono (hbody k a' B hk (by omega) (hAx _ _ _ _ xA apB)) ?_
      -- a round's end
      have fin : ∀ (jump : Option Code) (C : World), Keeps all B C →
          ∃ E, (Instr.endRound (w.heap.size + 1) jump).run P C = .ok (.bool jump.isNone) E ∧ Apart all C E ∧ E.heap[w.heap.size + 1]? = some (.loop (r (if jump.isNone then .ready else .done) jump)) ∧ E.heap[w.heap.size]? = some (.deferred (some [])) ∧ Keeps bad W E := by
        intro jump C hC
        have lC := (hC.block _ allL (Array.getElem?_eq_some_iff.1 lB).1).trans lB
        have dC := (hC.block _ allD (Array.getElem?_eq_some_iff.1 dB).1).trans dB
        have hrun := run_endRound (P := P) jump lC
        rw [hr] at hrun
        refine ⟨_, hrun, Apart.put allL, ?_, (World.putObj_heap_other (by omega)).trans dC, ?_, ?_⟩
        · rw [World.putObj_heap_same (Array.getElem?_eq_some_iff.1 lC).1, hr]
        · have := kA.size
          have := hC.size
          simp
          omega
        · intro b hb hl
          refine (World.putObj_heap_other (fun e : b = w.heap.size + 1 => nL (e ▸ hb))).trans ((hC.block b (sub b hb) (by have := kA.size; omega)).trans ((bB b hb).trans (kA.block b (sub b hb) hl)))
      rintro e a3 C hC
      cases e with
      | normal =>
        obtain ⟨kC, iC⟩ := hC
        obtain ⟨E, hrun, apE, lE, dE, kE⟩ := fin none C kC
        exact ⟨_, E, hrun, .inl ⟨rfl, ⟨hI _ _ _ iC apE, lE, dE⟩, kE⟩⟩
      | ret =>
        obtain ⟨kC, iC⟩ := hC
        obtain ⟨E, hrun, apE, lE, dE, kE⟩ := fin (some .ret) C kC
        exact ⟨_, E, hrun, .inr ⟨rfl, hIx _ _ iC apE, lE, dE⟩⟩
      | exit id => exact hC.elim
      | goto t => exact hC.elim
      | panic ch => exact hC.elim
      | outgrown => exact hC.elim
    | ret => exact hA.elim
    | exit id => exact hA.elim
    | goto t => exact hA.elim
    | panic ch => exact hA.elim
    | outgrown => exact hA.elim
  · rintro e B ⟨⟨v, rfl⟩, ⟨i, l, d⟩ | ⟨i, l, d⟩⟩
    · have := run_endLoop (P := P) l (by rw [hr]; simp)
      rw [hr] at this
      exact ⟨none, _, this, hdone _ (hI _ _ _ i (Apart.put allL)) ((World.putObj_heap_other (by omega)).trans d)⟩
    · have := run_endLoop (P := P) l (by rw [hr]; simp)
      rw [hr] at this
      exact ⟨some .ret, _, this, hstop _ (hIx _ _ i (Apart.put allL)) ((World.putObj_heap_other (by omega)).trans d)⟩
end Go.Proofs.YtcddbpdebklhnaaGreatDoor
