/-
  Maps from numbers to bools that the call makes; what is held while they are written. No program is named here but for its types.
-/
import Derived.Test.YtnehcaefafdiaaaRosterQ
import Derived.Maps.OwnOps
import Derived.Maps.Views
import Derived.WalkArith
namespace Go.Proofs.Ytnehcaefafdiaaa
open Go.RowKit
open Go.Maps (Keyed IsMap atKey_put_same atKey_put_other isMap_empty int_keyed keyOf_int_mk)

section
variable {P : Program} {k e : TypeId} {w : World} {b n : Nat} {D : DataW Unit}

theorem plainElem_bool_inv (he : P.underlying e = some .bool) {v : Value} {z : DataW Unit × List MemPlace} (h : plainElem P e v = some z) : ∃ x : Bool, v = .bool x ∧ z = (.lit (.bool x), []) := by
  unfold plainElem at h
  rw [he] at h
  cases v <;> simp at h
  exact ⟨_, rfl, h.symm⟩

/-- 'm[k]' at bool elements, at the operation. -/
theorem wpList_lookup_own_bool (w : World) {ops : Array Oper} {rest : List Oper} {o : Oper} {a : Act} {Q : Exit → Act → World → Prop}
    (hg : o.guard = none) (m x : Operand) (t : TypeId) (hop : o.op = Op.lookup t m x false)
    (k e : TypeId) (K : Keyed P k) (ht : P.underlying t = some (.map k e)) (he : P.underlying e = some .bool) (hz : (zeroValue e).run P w = .ok (.bool false) w) (b n : Nat) (D : DataW Unit)
    (hm : a.eval m = .map (some b)) (hown : w.ownsMap P k (plainElem P e) b n D) (key : Value) (kl : Lit) (hx : a.eval x = key) (hkey : keyOf P k key = some kl)
    (hK : ∀ c : Bool, D.atKey kl (.lit (.bool false)) = .lit (.bool c) → wpList P ops Q rest (a.put o.dst (.bool c)) w) :
    wpList P ops Q (o :: rest) a w := by
  refine wpList_plain hg fun K' hK' => ?_
  obtain ⟨v, ps, hrun, hv⟩ := hown.lookup K ht hz (plainElem_bool he false) hkey
  obtain ⟨c, rfl, hc⟩ := plainElem_bool_inv he hv
  simp only [Prod.mk.injEq] at hc
  unfold Oper.wp
  simp [execOp, hop, hm, hx, hrun, Result.andThen]
  exact hK' _ _ (hK c hc.1)

/-- Block b is a map in which each of the first q of zs stands, with true. -/
def MapHas (w : World) (P : Program) (k e : TypeId) (b : Nat) (zs : List Int) (q : Nat) : Prop :=
  ∃ D : DataW Unit, w.ownsMap P k (plainElem P e) b q D ∧ IsMap D ∧ ∀ j, j < q → D.atKey (.int .i64 (zs.getD j 0)) (.lit (.bool false)) = .lit (.bool true)

theorem MapHas.made (w : World) (P : Program) (k e : TypeId) (zs : List Int) : MapHas (w.alloc (.map #[] 0)) P k e w.heap.size zs 0 :=
  ⟨.map [], World.ownsMap_made w P k _, isMap_empty, fun _ h => absurd h (by omega)⟩
theorem MapHas.later {zs : List Int} {q : Nat} {w' : World} (h : MapHas w P k e b zs q) (hb : Below w.heap.size w w') : MapHas w' P k e b zs q := by
  obtain ⟨D, h1, h2, h3⟩ := h
  exact ⟨D, h1.kept (row := none) ⟨hb.os, hb.tape, hb.output, hb.size, fun i hi _ => hb.block i hi⟩ (by simp), h2, h3⟩
theorem MapHas.alloc {zs : List Int} {q : Nat} (h : MapHas w P k e b zs q) (o : Obj) : MapHas (w.alloc o) P k e b zs q := by
  obtain ⟨D, h1, h2, h3⟩ := h
  exact ⟨D, h1.alloc o, h2, h3⟩
theorem mapHas_put {zs : List Int} {q : Nat} {w' : World} (h2 : IsMap D) (h3 : ∀ j, j < q → D.atKey (.int .i64 (zs.getD j 0)) (.lit (.bool false)) = .lit (.bool true))
    (h : w'.ownsMap P k (plainElem P e) b (q + 1) (D.put (.int .i64 (zs.getD q 0)) (.lit (.bool true)))) : MapHas w' P k e b zs (q + 1) := by
  refine ⟨_, h, h2.put _ _, fun j hj => ?_⟩
  by_cases hk : (Lit.int .i64 (zs.getD j 0)) = .int .i64 (zs.getD q 0)
  · rw [hk]; exact atKey_put_same h2 (show WideAt.IsKeyLit (.int .i64 (zs.getD q 0)) from True.intro) _ _
  · rw [atKey_put_other hk]
    refine h3 j ?_
    rcases Nat.lt_or_ge j q with h | h
    · exact h
    · exact absurd (by rw [show j = q by omega]) hk

/-- Cells stay over what is done to a map. -/
theorem cell_map {w' : World} {a : Addr} {v : Value} {R : Value → Option (DataW Unit × List MemPlace)} (hown : w.ownsMap P k R b n D) (hg : w.grownBy w' (some b)) (h : w.cell? a = some v) : w'.cell? a = some v := by
  refine hg.cell h (fun e => ?_)
  injection e with e
  obtain ⟨es, clock, hb, _⟩ := hown
  rw [← e] at hb
  simp [World.cell?, hb] at h

def KeepC (w w' : World) : Prop := ∀ a v, w.cell? a = some v → w'.cell? a = some v
end

section
variable {w w' : World} {A : Option Addr} {R n m : Nat} {lv st pt al au : Nat → Int}
theorem LabsAt.keepC (h : LabsAt w A n lv st) (hk : KeepC w w') : LabsAt w' A n lv st := fun hn => by
  obtain ⟨ad, e, hc⟩ := h hn
  exact ⟨ad, e, fun i hi => ⟨hk _ _ (hc i hi).1, hk _ _ (hc i hi).2⟩⟩
theorem PepsAt.keepC (h : PepsAt w A n pt al au) (hk : KeepC w w') : PepsAt w' A n pt al au := fun hn => by
  obtain ⟨ad, e, hc⟩ := h hn
  exact ⟨ad, e, fun i hi => ⟨hk _ _ (hc i hi).1, hk _ _ (hc i hi).2.1, hk _ _ (hc i hi).2.2⟩⟩
theorem IntsAt.keepC {zs : List Int} (h : IntsAt w A zs) (hk : KeepC w w') : IntsAt w' A zs := fun hn => by
  obtain ⟨ad, e, hc⟩ := h hn
  exact ⟨ad, e, fun i hi => hk _ _ (hc i hi)⟩
theorem RosAt.keepC (h : RosAt w R n m lv st pt al au) (hk : KeepC w w') : RosAt w' R n m lv st pt al au := by
  obtain ⟨A, c, B, d, h1, h2, h3, h4, h5⟩ := h
  exact ⟨A, c, B, d, hk _ _ h1, hk _ _ h2, h3.keepC hk, h4.keepC hk, h5⟩
end

/-- What is held in RosterBelow. -/
def BelS (w : World) (R : Nat) (A : Option Addr) (n m : Nat) (lv st pt al au : Nat → Int) (l s : Int) (W : World) : Prop :=
  RosAt W R n m lv st pt al au ∧ LabsAt W A n lv st ∧ W.cell? ⟨w.heap.size, 0, none⟩ = some (.int .i64 l) ∧ W.cell? ⟨w.heap.size, 1, none⟩ = some (.int .u16 s) ∧ Below w.heap.size w W
section
variable {A : Option Addr} {R n m : Nat} {lv st pt al au : Nat → Int} {l s : Int} {w v v' : World}
theorem BelS.keep (h : BelS w R A n m lv st pt al au l s v) (hb : Below v.heap.size v v') : BelS w R A n m lv st pt al au l s v' :=
  let ⟨a, b, c, d, e⟩ := h
  ⟨a.later hb, b.later hb, cell_later hb c, cell_later hb d, below_step e hb⟩
theorem BelS.alloc (h : BelS w R A n m lv st pt al au l s v) (o : Obj) : BelS w R A n m lv st pt al au l s (v.alloc o) :=
  let ⟨a, b, c, d, e⟩ := h
  ⟨a.alloc o, b.alloc o, cell_alloc c, cell_alloc d, e.alloc e.size o⟩
theorem BelS.keepC (h : BelS w R A n m lv st pt al au l s v) (hk : KeepC v v') (hb : Below w.heap.size w v') : BelS w R A n m lv st pt al au l s v' :=
  let ⟨a, b, c, d, _⟩ := h
  ⟨a.keepC hk, b.keepC hk, hk _ _ c, hk _ _ d, hb⟩
end

theorem refjoin_set (l s k t : Int) (hs : SetN s) (ht : SetN t) (w : World) :
    Calls Try.prog 24 #[.agg #[.int .i64 l, .int .u16 s], .agg #[.int .i64 k, .int .u16 t]] w fun e w' => e = .returned (.agg #[.int .i64 (mxI l k), .int .u16 (orS s t)]) ∧ Below w.heap.size w w' := by
  rw [← acc_or hs ht]
  exact refjoin_is l s k t w

theorem belowL_at {p : Nat → Bool} {n : Nat} {x : Int} (h : x ∈ belowL p n) : ∃ j, j < (belowL p n).length ∧ (belowL p n).getD j 0 = x := by
  obtain ⟨j, hj, e⟩ := List.getElem_of_mem h
  exact ⟨j, hj, by simp [hj, e]⟩
theorem belowL_getD {p : Nat → Bool} {n j : Nat} (h : j < (belowL p n).length) : (belowL p n).getD j 0 ∈ belowL p n := by
  simp [h]

end Go.Proofs.Ytnehcaefafdiaaa
