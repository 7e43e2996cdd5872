/-
  A region that draws its order, whose operations read, and whose calls make memory but keep a condition S on the world: one walk in the order of the text serves every order. No program is named here.
-/
import Derived.Deep.QuietTactic
import Derived.BigQuiet
import Derived.Below
import Derived.WalkSpells
namespace Go.Proofs.YthmjeibanofliaaDoor
open Go.RowKit

/-- A world that meets S. -/
structure HeldW (S : World → Prop) where
  w : World
  ok : S w

variable {P : Program} {S : World → Prop}

theorem wp_region_kept {id : Nat} {Q : Exit → Act → World → Prop} {a : Act} {w : World} {l : List Oper} (S : World → Prop) (hm : P.follows .mixedOrders = true) (hB : Region.lexB .any l.toArray = true) (hS : S w.drew)
    (h : Nonempty (HeldW S) → wpQuiet P l.toArray (fun w' => ∃ x : HeldW S, w' = x.w) (fun a' => ∀ w', (∃ x : HeldW S, w' = x.w) → Q .normal a' w') l a) : (Code.region id l.toArray true).wp P Q a w :=
  wp_region_quiet (C := fun w' => ∃ x : HeldW S, w' = x.w) hm hB ⟨⟨_, hS⟩, rfl⟩ (by simpa using h ⟨⟨_, hS⟩⟩)

theorem kept_of {f : FuncId} {args : Array Value} {x : HeldW S} {v : Value} (keep : ∀ w w', S w → Below w.heap.size w w' → S w')
    (h : Calls P f args x.w fun e w' => e = .returned v ∧ Below x.w.heap.size x.w w') : Calls P f args x.w fun e w'' => e = .returned v ∧ ∃ y : HeldW S, w'' = y.w :=
  h.mono fun _ w' ⟨he, hb⟩ => ⟨he, ⟨w', keep _ _ x.ok hb⟩, rfl⟩

theorem kept_same {f : FuncId} {args : Array Value} {x : HeldW S} {v : Value}
    (h : Calls P f args x.w fun e w' => e = .returned v ∧ x.w = w') : Calls P f args x.w fun e w'' => e = .returned v ∧ ∃ y : HeldW S, w'' = y.w :=
  h.mono fun _ _ ⟨he, hb⟩ => ⟨he, x, hb.symm⟩

theorem kept_end {K : World → Prop} (h : ∀ w, S w → K w) : ∀ w', (∃ x : HeldW S, w' = x.w) → K w' := by
  rintro _ ⟨x, rfl⟩
  exact h _ x.ok

/-- These cells hold these values, E holds, and all that was there at w is as it was. -/
def HoldS (w : World) (cs : List (Addr × Value)) (E : World → Prop) (W : World) : Prop := (∀ x ∈ cs, W.cell? x.1 = some x.2) ∧ E W ∧ Below w.heap.size w W
theorem HoldS.keep {w : World} {cs : List (Addr × Value)} {E : World → Prop} (hE : ∀ v v', E v → Below v.heap.size v v' → E v') : ∀ v v', HoldS w cs E v → Below v.heap.size v v' → HoldS w cs E v' :=
  fun _ _ ⟨a, b, c⟩ hb => ⟨fun x hx => cell_later hb (a x hx), hE _ _ b hb, c.trans (hb.mono c.size)⟩
theorem keepTrue : ∀ v v' : World, True → Below v.heap.size v v' → True := fun _ _ h _ => h

theorem cc {W : World} {a : Addr} {v : Value} {r : List (Addr × Value)} (h : W.cell? a = some v) (t : ∀ x ∈ r, W.cell? x.1 = some x.2) : ∀ x ∈ (a, v) :: r, W.cell? x.1 = some x.2 := List.forall_mem_cons.2 ⟨h, t⟩
theorem cn {W : World} : ∀ x ∈ ([] : List (Addr × Value)), W.cell? x.1 = some x.2 := fun _ h => absurd h List.not_mem_nil
theorem HeldW.at_ {w : World} {cs : List (Addr × Value)} {E : World → Prop} (x : HeldW (HoldS w cs E)) {a : Addr} {v : Value} (k : Nat) (h : cs[k]? = some (a, v)) : x.w.cell? a = some v := x.ok.1 (a, v) (List.mem_of_getElem? h)

end Go.Proofs.YthmjeibanofliaaDoor
