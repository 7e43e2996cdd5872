/-
  The program's Ready and Order, of pipelines that may be. No further conditions. The program's Long, of a pipeline that may be. No further conditions.
-/
import Derived.Test.YtcddbpdebklhnaaGreatDoorOrdX
import Derived.Test.YtcddbpdebklhnaaGreatDoorMdC
import Derived.Deep.DeepCutAuto
import Derived.Deep.OwnRows
import Derived.WalkKit
import Derived.BigRegion
namespace Go.Proofs.YtcddbpdebklhnaaGreatDoor
open Go.RowKit

theorem cell_lt {w : World} {p : Addr} {v : Value} (h : w.cell? p = some v) : p.block < w.heap.size := by
  rcases Nat.lt_or_ge p.block w.heap.size with h1 | h1
  · exact h1
  · unfold World.cell? at h
    rw [Array.getElem?_eq_none h1] at h
    simp at h
theorem RightPi.afts {p : PiP} (h : RightPi p) : ∀ t ∈ p.tasks, t.after.length ≤ 1000000 := fun t ht => by
  have h1 := h.task t ht
  have h2 := few_below _ _ h1.aft.1 h1.aft.2
  have := h.few.2
  omega
section
variable {w : World} {A D : Option Addr} {c d : Nat} {n : ByteArray} {ts : List TkP}
/-- What Order answers. -/
def OrdOut (w : World) (r : Option (List Nat)) (e : Ending) (w' : World) : Prop := Below w.heap.size w w' ∧ match r with
  | none => e = .returned (.tuple #[.slice none 0 0, .bool false])
  | some l => ∃ B b, e = .returned (.tuple #[.slice B l.length b, .bool true]) ∧ NatsAt w' B l ∧ l.length ≤ b
theorem bools_own {W : World} {b : Nat} {v : Value} {ds : List Bool} {k : Nat} (h : W.ownsRow b 4 1 v k (ds.map Value.bool)) : BoolsAt W (match v with | .slice A _ _ => A | _ => none) ds := by
  have hl := h.1
  rw [List.length_map, Nat.mul_one] at hl
  rcases h.2 with ⟨rfl, e⟩ | ⟨g, cap, cur, rfl, _, hq, hcp, _, _, ht⟩
  · intro h0; omega
  · intro _
    refine ⟨_, rfl, fun i x hi => ?_⟩
    have hadd : (⟨g, 0, none⟩ : Addr).add i = ⟨g, i, none⟩ := by unfold Addr.add; split <;> simp_all
    rw [hadd, cellH hq]
    have h3 : (cur.toList.take (k * 1))[i]? = some (Value.bool x) := by rw [ht, List.getElem?_map, hi]; rfl
    rw [List.getElem?_take] at h3
    split at h3
    · simpa using h3
    · exact absurd h3 (by simp)
/-- Where Order's done lies, and what it holds. -/
structure DnAt (W : World) (g b : Nat) (ds : List Bool) : Prop where
  own : W.ownsRow b 4 1 (.slice (some ⟨g, 0, none⟩) ds.length ds.length) ds.length (ds.map Value.bool)
theorem DnAt.bools {W : World} {g b : Nat} {ds : List Bool} (h : DnAt W g b ds) : BoolsAt W (some ⟨g, 0, none⟩) ds := bools_own h.own
/-- The middle of Order: k tasks stand, those of l; ds are done. -/
structure OrdM (W0 : World) (p : PiP) (g : Nat) (k : Nat) (v : Value) (l : List Nat) (ds : List Bool) (W : World) : Prop where
  list : W.ownsRow W0.heap.size 3 1 v k (natV l)
  len : l.length = k
  done : W.ownsRow W0.heap.size 4 1 (.slice (some ⟨g, 0, none⟩) p.tasks.length p.tasks.length) p.tasks.length (ds.map Value.bool)
  dlen : ds.length = p.tasks.length
  low : Below W0.heap.size W0 W
  go : orderP p = (orderGo p (p.tasks.length - k) ds).map (l ++ ·)
theorem OrdM.later {W0 W W' : World} {p : PiP} {g k : Nat} {v : Value} {l : List Nat} {ds : List Bool} (h : OrdM W0 p g k v l ds W) (hb : Below W.heap.size W W') : OrdM W0 p g k v l ds W' :=
  ⟨own_agree h.list (fun q _ hq => hb.block q hq), h.len, own_agree h.done (fun q _ hq => hb.block q hq), h.dlen, below_step h.low hb, h.go⟩
theorem OrdM.bools {W0 W : World} {p : PiP} {g k : Nat} {v : Value} {l : List Nat} {ds : List Bool} (h : OrdM W0 p g k v l ds W) : BoolsAt W (some ⟨g, 0, none⟩) ds := bools_own h.done
theorem own_block {W : World} {b g n c : Nat} {t : TypeId} {sz : Nat} {xs : List Value} (h : W.ownsRow b t sz (.slice (some ⟨g, 0, none⟩) n c) n xs) : ∃ cur, W.heap[g]? = some (.cells cur t (0, 0)) := (own_tag h rfl).2
/-- One more stands. -/
theorem OrdM.put {W0 W W1 : World} {p : PiP} {g k i : Nat} {v v1 : Value} {l : List Nat} {ds : List Bool} {r : List Nat} (h : OrdM W0 p g k v l ds W) (hk : k < p.tasks.length) (hr : readyP p ds = i :: r)
    (ho : W1.ownsRow W0.heap.size 3 1 v1 (k + 1) (natV l ++ [.int .i64 (i : Nat)])) (hg : W.grownBy W1 v.ownBlock) :
    OrdM W0 p g (k + 1) v1 (l ++ [i]) (ds.set i true) (W1.setCell ⟨g, i, none⟩ (.bool true)) ∧ (∃ x, W1.cell? ⟨g, i, none⟩ = some (.bool x)) ∧ W1.frozen? ⟨g, i, none⟩ = false := by
  obtain ⟨cur, hcur⟩ := own_block h.done
  have h1 : W1.ownsRow W0.heap.size 4 1 (.slice (some ⟨g, 0, none⟩) p.tasks.length p.tasks.length) p.tasks.length (ds.map Value.bool) := own_frame h.done (fun q cur _ hq => hg.block q (Array.getElem?_eq_some_iff.1 hq).1 (fun e => by
    obtain ⟨_, cur', h2⟩ := own_tag h.list e.symm
    exact absurd (tag_ne hq h2) (by decide)))
  obtain ⟨cur1, hcur1⟩ := own_block h1
  have hst := h1.stored i (.bool true)
  have hi := (ready_head hr).1
  have hgb : W0.heap.size ≤ g := (own_tag h1 rfl).1
  have hgo : orderGo p (p.tasks.length - k) ds = (orderGo p (p.tasks.length - (k + 1)) (ds.set i true)).map (i :: ·) := by
    rw [show p.tasks.length - k = (p.tasks.length - (k + 1)) + 1 by omega]
    show (match readyP p ds with | [] => none | i :: _ => (orderGo p (p.tasks.length - (k + 1)) (ds.set i true)).map (i :: ·)) = _
    rw [hr]
  have hb := (own_tag h1 rfl).1
  refine ⟨⟨?_, by rw [List.length_append, h.len]; rfl, ?_, by rw [List.length_set]; exact h.dlen, ?_, ?_⟩, ?_, h1.frozenAt i⟩
  · refine own_frame (xs := natV (l ++ [i])) (by simpa [natV] using ho) (fun q cur _ hq => ?_)
    refine Below.heap_setCell W1 ⟨g, i, none⟩ (.bool true) q ?_
    intro e
    obtain rfl : q = g := e
    exact absurd (tag_ne hq hcur1) (by decide)
  · have := hst.1
    rwa [show (ds.map Value.bool).set i (.bool true) = (ds.set i true).map Value.bool by rw [List.map_set]] at this
  · exact (h.low.grown hg h.low.size (fun q hq => (own_tag h.list hq).1)).setCell hgb _
  · rw [h.go, hgo, Option.map_map]
    congr 1
    funext m
    simp
  · obtain ⟨x, hx⟩ : ∃ x, ds[i]? = some x := ⟨_, List.getElem?_eq_getElem (by rw [h.dlen]; exact hi)⟩
    obtain ⟨ad, e, hc⟩ := (bools_own h1).at_ hx
    injection e with e
    subst e
    refine ⟨x, ?_⟩
    have hadd : (⟨g, 0, none⟩ : Addr).add i = ⟨g, i, none⟩ := by unfold Addr.add; split <;> simp_all
    rwa [hadd] at hc
end
end Go.Proofs.YtcddbpdebklhnaaGreatDoor

namespace Go.Proofs.YtcddbpdebklhnaaGreatDoor
open Go.RowKit

/-- Rows in memory: the block g holds the numbers r. -/
structure RwAt (W2 : World) (g : Nat) (r : List Nat) (W : World) : Prop where
  own : W.ownsRow W2.heap.size 3 1 (.slice (some ⟨g, 0, none⟩) r.length r.length) r.length (natV r)
  low : Below W2.heap.size W2 W
theorem RwAt.cell {W2 W : World} {g : Nat} {r : List Nat} (h : RwAt W2 g r W) {i : Nat} (hi : i < r.length) : W.cell? ⟨g, i, none⟩ = some (.int .i64 (r.getD i 0 : Nat)) := by
  rw [h.own.cellAt i (by omega), List.getElem?_map, List.getElem?_eq_getElem hi, List.getD_eq_getElem?_getD, List.getElem?_eq_getElem hi]
  rfl
theorem RwAt.set {W2 W : World} {g : Nat} {r : List Nat} (h : RwAt W2 g r W) (i v : Nat) : RwAt W2 g (r.set i v) (W.setCell ⟨g, i, none⟩ (.int .i64 (v : Nat))) := by
  have hst := (h.own.stored i (.int .i64 (v : Nat))).1
  refine ⟨?_, h.low.setCell (p := ⟨g, i, none⟩) (own_tag h.own rfl).1 _⟩
  rw [List.length_set]
  rwa [show (natV r).set i (.int .i64 (v : Nat)) = natV (r.set i v) by unfold natV; rw [List.map_set]] at hst
theorem RwAt.drew {W2 W : World} {g : Nat} {r : List Nat} (h : RwAt W2 g r W) : RwAt W2 g r W.drew := ⟨h.own, h.low.drew⟩
theorem maxNI (a b : Nat) : maxI (a : Int) (b : Int) = ((max a b : Nat) : Int) := by
  unfold maxI
  split <;> omega
theorem fold_take {α β : Type} (f : β → α → β) {l : List α} {k : Nat} {x : α} (hx : l[k]? = some x) (b : β) : (l.take (k + 1)).foldl f b = f ((l.take k).foldl f b) x := by
  rw [List.take_add_one, hx, List.foldl_append]
  rfl
theorem take_le {ts : List TkP} : ∀ (l : List Nat) (s : List Nat × Nat) (K : Nat), (∀ i ∈ l, i < s.1.length) → (∀ j, s.1.getD j 0 ≤ K) → s.2 ≤ K → (∀ j, (l.foldl (rowStep ts) s).1.getD j 0 ≤ K + l.length) ∧ (l.foldl (rowStep ts) s).2 ≤ K + l.length ∧ (l.foldl (rowStep ts) s).1.length = s.1.length := by
  intro l
  induction l with
  | nil => exact fun s K _ h1 h2 => ⟨h1, h2, rfl⟩
  | cons i l ih =>
    intro s K hl hr h2
    have hi := hl i List.mem_cons_self
    have h3 := rows_le (aftN ts i) s.1 hi hr
    have := ih (rowStep ts s i) (K + 1) (fun j hj => by rw [step_len]; exact hl j (List.mem_cons_of_mem _ hj)) (fun j => by
      rw [step_at hi]
      split
      · have := h3 i; omega
      · have := hr j; omega) (by rw [step_two hi]; have := h3 i; omega)
    rw [List.foldl_cons, List.length_cons]
    refine ⟨fun j => ?_, ?_, this.2.2.trans (step_len _ _ _)⟩
    · have := this.1 j; omega
    · omega
section
variable {w : World} {A D : Option Addr} {c d : Nat} {n : ByteArray} {ts : List TkP}
end
end Go.Proofs.YtcddbpdebklhnaaGreatDoor
