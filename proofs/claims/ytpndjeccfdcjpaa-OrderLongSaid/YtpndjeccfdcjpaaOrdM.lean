/-
  A map from numbers to bools that the call makes, in which the first q of some numbers stand; rows of truths of the call's own. No conditions.
-/
import Derived.Test.YtpndjeccfdcjpaaOrdL
import Derived.Maps.OwnOps
import Derived.Maps.Views
import Derived.WalkArith
namespace Go.Proofs.Ytpndjeccfdcjpaa
open Go.RowKit
open Go.Maps (Keyed IsMap atKey_put_same atKey_put_other isMap_empty int_keyed keyOf_int_mk)

theorem info_boolO : (Try.prog.info? 4).map (fun i => (i.zero, i.size, i.bytes)) = some (some (.bool false), 1, 1) := by kernel_rfl
theorem info_of {t : TypeId} {z : Value} {a b : Nat} (h : (Try.prog.info? t).map (fun i => (i.zero, i.size, i.bytes)) = some (some z, a, b)) : ∃ i, Try.prog.info? t = some i ∧ i.zero = some z ∧ i.size = a ∧ i.bytes = b := by
  rw [Option.map_eq_some_iff] at h
  obtain ⟨i, h1, h2⟩ := h
  simp only [Prod.mk.injEq] at h2
  exact ⟨i, h1, h2.1, h2.2.1, h2.2.2⟩
theorem lawIO : Keyed Try.prog 3 := int_keyed Try.underlying3
theorem zeroBoolO (w : World) : (zeroValue 4).run Try.prog w = .ok (.bool false) w := by kernel_rfl
theorem keyIO {a : Nat} (h1 : a < 64) : keyOf Try.prog 3 (.int .i64 a) = some (.int .i64 a) := keyOf_int_mk Try.underlying3 (WalkArith.wf_i64 ⟨by omega, by omega⟩)
section
variable {P : Program} {k e : TypeId} {w : World} {b n : Nat} {D : DataW Unit}
theorem plainBool_inv (he : P.underlying e = some .bool) {v : Value} {z : DataW Unit × List MemPlace} (h : plainElem P e v = some z) : ∃ x : Bool, v = .bool x ∧ z = (.lit (.bool x), []) := by
  unfold plainElem at h
  rw [he] at h
  cases v <;> simp at h
  exact ⟨_, rfl, h.symm⟩
/-- 'm[k]' at bool elements, at the operation. -/
theorem wpList_lookup_ownB (w : World) {ops : Array Oper} {rest : List Oper} {o : Oper} {a : Act} {Q : Exit → Act → World → Prop}
    (hg : o.guard = none) (m x : Operand) (t : TypeId) (hop : o.op = Op.lookup t m x false)
    (k e : TypeId) (K : Keyed P k) (ht : P.underlying t = some (.map k e)) (he : P.underlying e = some .bool) (hz : (zeroValue e).run P w = .ok (.bool false) w) (b n : Nat) (D : DataW Unit)
    (hm : a.eval m = .map (some b)) (hown : w.ownsMap P k (plainElem P e) b n D) (key : Value) (kl : Lit) (hx : a.eval x = key) (hkey : keyOf P k key = some kl)
    (hK : ∀ c : Bool, D.atKey kl (.lit (.bool false)) = .lit (.bool c) → wpList P ops Q rest (a.put o.dst (.bool c)) w) :
    wpList P ops Q (o :: rest) a w := by
  refine wpList_plain hg fun K' hK' => ?_
  obtain ⟨v, ps, hrun, hv⟩ := hown.lookup K ht hz (plainElem_bool he false) hkey
  obtain ⟨c, rfl, hc⟩ := plainBool_inv he hv
  simp only [Prod.mk.injEq] at hc
  unfold Oper.wp
  simp [execOp, hop, hm, hx, hrun, Result.andThen]
  exact hK' _ _ (hK c hc.1)
/-- 'm[k]' at bool elements, at the operation, where its guard is met. -/
theorem wpList_lookup_ownG (w : World) {ops : Array Oper} {rest : List Oper} {o : Oper} {a : Act} {Q : Exit → Act → World → Prop}
    (hg : Region.wanted o (yielded ops a.tmps) = true) (m x : Operand) (t : TypeId) (hop : o.op = Op.lookup t m x false)
    (k e : TypeId) (K : Keyed P k) (ht : P.underlying t = some (.map k e)) (he : P.underlying e = some .bool) (hz : (zeroValue e).run P w = .ok (.bool false) w) (b n : Nat) (D : DataW Unit)
    (hm : a.eval m = .map (some b)) (hown : w.ownsMap P k (plainElem P e) b n D) (key : Value) (kl : Lit) (hx : a.eval x = key) (hkey : keyOf P k key = some kl)
    (hK : ∀ c : Bool, D.atKey kl (.lit (.bool false)) = .lit (.bool c) → wpList P ops Q rest (a.put o.dst (.bool c)) w) :
    wpList P ops Q (o :: rest) a w := by
  refine wpList_step fun K' hK' => ?_
  rw [hg, if_pos rfl]
  obtain ⟨v, ps, hrun, hv⟩ := hown.lookup K ht hz (plainElem_bool he false) hkey
  obtain ⟨c, rfl, hc⟩ := plainBool_inv he hv
  simp only [Prod.mk.injEq] at hc
  unfold Oper.wp
  simp [execOp, hop, hm, hx, hrun, Result.andThen]
  exact hK' _ _ (hK c hc.1)
/-- Block b is a map in which just the first q of rs stand, with true. -/
def MapOf (w : World) (P : Program) (k e : TypeId) (b : Nat) (rs : List Nat) (q : Nat) : Prop :=
  ∃ D : DataW Unit, w.ownsMap P k (plainElem P e) b q D ∧ IsMap D ∧ ∀ x : Nat, D.atKey (.int .i64 x) (.lit (.bool false)) = .lit (.bool (decide (x ∈ rs.take q)))
theorem MapOf.made (w : World) (P : Program) (k e : TypeId) (rs : List Nat) : MapOf (w.alloc (.map #[] 0)) P k e w.heap.size rs 0 :=
  ⟨.map [], World.ownsMap_made w P k _, isMap_empty, fun _ => by simp [DataW.atKey]⟩
theorem MapOf.later {rs : List Nat} {q : Nat} {w' : World} (h : MapOf w P k e b rs q) (hb : Below w.heap.size w w') : MapOf w' P k e b rs q := by
  obtain ⟨D, h1, h2, h3⟩ := h
  exact ⟨D, h1.kept (row := none) ⟨hb.os, hb.tape, hb.output, hb.size, fun i hi _ => hb.block i hi⟩ (by simp), h2, h3⟩
theorem mapOf_put {rs : List Nat} {q x : Nat} {w' : World} (h2 : IsMap D) (h3 : ∀ x : Nat, D.atKey (.int .i64 x) (.lit (.bool false)) = .lit (.bool (decide (x ∈ rs.take q)))) (hx : rs[q]? = some x)
    (h : w'.ownsMap P k (plainElem P e) b (q + 1) (D.put (.int .i64 x) (.lit (.bool true)))) : MapOf w' P k e b rs (q + 1) := by
  refine ⟨_, h, h2.put _ _, fun y => ?_⟩
  rw [List.take_add_one, hx]
  by_cases hk : y = x
  · subst hk
    rw [atKey_put_same h2 (show WideAt.IsKeyLit (.int .i64 (y : Int)) from True.intro) _ _]
    simp
  · rw [atKey_put_other (by intro e; injection e with _ e; omega), h3]
    simp [hk]
theorem cell_mapO {w' : World} {a : Addr} {v : Value} {R : Value → Option (DataW Unit × List MemPlace)} (hown : w.ownsMap P k R b n D) (hg : w.grownBy w' (some b)) (h : w.cell? a = some v) : w'.cell? a = some v := by
  refine hg.cell h (fun e => ?_)
  injection e with e
  obtain ⟨es, clock, hb, _⟩ := hown
  rw [← e] at hb
  simp [World.cell?, hb] at h
theorem NatsAt.keep {w' : World} {A : Option Addr} {l : List Nat} (h : NatsAt w A l) (hk : ∀ a v, w.cell? a = some v → w'.cell? a = some v) : NatsAt w' A l := fun hn => by
  obtain ⟨ad, e, hc⟩ := h hn
  exact ⟨ad, e, fun i n hi => hk _ _ (hc i n hi)⟩
/-- A row of truths of the call's own, as an argument. -/
theorem bools_of_own {base : Nat} {t : TypeId} {v : Value} {ds : List Bool} (h : w.ownsRow base t 1 v ds.length (ds.map Value.bool)) (h0 : 0 < ds.length) :
    ∃ g cap, v = .slice (some ⟨g, 0, none⟩) ds.length cap ∧ ds.length ≤ cap ∧ base ≤ g ∧ BoolsAt w (some ⟨g, 0, none⟩) ds := by
  obtain ⟨hl, ⟨_, e0⟩ | ⟨g, cap, cur, rfl, hb, hg, hn, hm, hs, ht⟩⟩ := h
  · omega
  · refine ⟨g, cap, rfl, hn, hb, fun _ => ⟨_, rfl, fun i x hi => ?_⟩⟩
    have hi1 := (List.getElem?_eq_some_iff.1 hi).1
    have h1 : (cur.toList.take (ds.length * 1))[i]? = some (.bool x) := by rw [ht, List.getElem?_map, hi]; rfl
    rw [List.getElem?_take_of_lt (by omega)] at h1
    have h2 : cur[i]? = some (.bool x) := by simpa using h1
    have ha : (⟨g, 0, none⟩ : Addr).add i = ⟨g, i, none⟩ := by unfold Addr.add; split <;> simp_all
    rw [ha]
    simp [World.cell?, hg, h2]
end
end Go.Proofs.Ytpndjeccfdcjpaa
