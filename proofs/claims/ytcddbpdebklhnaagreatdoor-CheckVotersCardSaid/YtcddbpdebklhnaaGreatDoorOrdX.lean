/-
  What OrderLong asks of the program's order (a bundle), and the plain facts that it asks of the numbers. No conditions. A map from numbers to bools that the call makes, in which the first q of some numbers stand; rows of truths of the call's own. No conditions. The program's ready (order): its closure, slices.IndexFunc and ContainsFunc of it. Conditions: eight tasks at most, each behind a million at most. What is ahead of a task, the order, the longest row: the program's own answers as functions, and the plain facts that the law asks of them. No conditions.
-/
import Derived.Test.YtcddbpdebklhnaaGreatDoorOrdA
import Derived.Test.YtcddbpdebklhnaaGreatDoorOrdF
import Derived.Maps.OwnOps
import Derived.Maps.Views
import Derived.WalkArith
import Derived.Test.YtcddbpdebklhnaaGreatDoorFlat
import Derived.WalkKit
import Derived.OwnWalk
namespace Go.Proofs.YtcddbpdebklhnaaGreatDoor
open Go.RowKit

/-- Which tasks are ready: not done, all that they come behind done. -/
def readyP (p : PiP) (ds : List Bool) : List Nat := (List.range p.tasks.length).filter fun i => !ds.getD i false && ((p.tasks.getD i ⟨⟨#[]⟩, [], 0, 0, 0, 0, 0⟩).after.all fun a => ds.getD a false)
theorem readyP_len (p : PiP) (ds : List Bool) : (readyP p ds).length ≤ p.tasks.length := Nat.le_trans (List.length_filter_le _ _) (by simp)
theorem getD_set (ds : List Bool) (m i : Nat) : (ds.set m true).getD i false = (decide (i = m ∧ m < ds.length) || ds.getD i false) := by
  rw [List.getD_eq_getElem?_getD, List.getElem?_set, List.getD_eq_getElem?_getD]
  by_cases h : m = i
  · subst h
    by_cases hm : m < ds.length
    · simp [hm]
    · simp [hm]
  · have h' : ¬ i = m := fun e => h e.symm
    simp [h, h']
/-- With one more done nothing else is less ready. -/
theorem readyP_more {p : PiP} {ds : List Bool} {m i : Nat} (hi : i ∈ readyP p ds) (hm : i ≠ m) : i ∈ readyP p (ds.set m true) := by
  unfold readyP at hi ⊢
  rw [List.mem_filter] at hi ⊢
  refine ⟨hi.1, ?_⟩
  have h := hi.2
  simp only [Bool.and_eq_true, Bool.not_eq_true', List.all_eq_true] at h ⊢
  refine ⟨by rw [getD_set, h.1]; simp [hm], fun a ha => by rw [getD_set, h.2 a ha]; simp⟩
theorem readyP_done {p : PiP} {ds : List Bool} {m : Nat} (hm : m < ds.length) : m ∉ readyP p (ds.set m true) := by
  unfold readyP
  rw [List.mem_filter]
  rintro ⟨_, h⟩
  simp only [Bool.and_eq_true, Bool.not_eq_true'] at h
  have h1 := h.1
  rw [getD_set] at h1
  simp [hm] at h1
/-- No task comes behind another one. -/
def flatP (ts : List TkP) : Bool := ts.all fun t => t.after.isEmpty
end Go.Proofs.YtcddbpdebklhnaaGreatDoor

namespace Go.Proofs.YtcddbpdebklhnaaGreatDoor
open Go.RowKit
open Go.Maps (Keyed IsMap atKey_put_same atKey_put_other isMap_empty int_keyed keyOf_int_mk)

theorem info_boolO : (Tryz.prog.info? 4).map (fun i => (i.zero, i.size, i.bytes)) = some (some (.bool false), 1, 1) := by kernel_rfl
theorem info_of {t : TypeId} {z : Value} {a b : Nat} (h : (Tryz.prog.info? t).map (fun i => (i.zero, i.size, i.bytes)) = some (some z, a, b)) : ∃ i, Tryz.prog.info? t = some i ∧ i.zero = some z ∧ i.size = a ∧ i.bytes = b := by
  rw [Option.map_eq_some_iff] at h
  obtain ⟨i, h1, h2⟩ := h
  simp only [Prod.mk.injEq] at h2
  exact ⟨i, h1, h2.1, h2.2.1, h2.2.2⟩
theorem lawIO : Keyed Tryz.prog 3 := int_keyed Tryz.underlying3
theorem zeroBoolO (w : World) : (zeroValue 4).run Tryz.prog w = .ok (.bool false) w := by kernel_rfl
theorem keyIO {a : Nat} (h1 : a < 64) : keyOf Tryz.prog 3 (.int .i64 a) = some (.int .i64 a) := keyOf_int_mk Tryz.underlying3 (WalkArith.wf_i64 ⟨by omega, by omega⟩)
section
variable {P : Program} {k e : TypeId} {w : World} {b n : Nat} {D : DataW Unit}
theorem plainBool_inv (he : P.underlying e = some .bool) {v : Value} {z : DataW Unit × List MemPlace} (h : plainElem P e v = some z) : ∃ x : Bool, v = .bool x ∧ z = (.lit (.bool x), []) := by
  unfold plainElem at h
  rw [he] at h
  cases v <;> simp at h
  exact ⟨_, rfl, h.symm⟩
/-- 'm[k]' at bool elements, at the operation. -/
theorem wpList_lookup_ownB (w : World) {ops : Array Oper} {rest : List Oper} {o : Oper} {a : Act} {Q : Exit → Act → World → Prop}
    (hg : o.guard = none) (m x : Operand) (t : TypeId) (hop : o.op = Op.lookup t m x false)
    (k e : TypeId) (K : Keyed P k) (ht : P.underlying t = some (.map k e)) (he : P.underlying e = some .bool) (hz : (zeroValue e).run P w = .ok (.bool false) w) (b n : Nat) (D : DataW Unit)
    (hm : a.eval m = .map (some b)) (hown : w.ownsMap P k (plainElem P e) b n D) (key : Value) (kl : Lit) (hx : a.eval x = key) (hkey : keyOf P k key = some kl)
    (hK : ∀ c : Bool, D.atKey kl (.lit (.bool false)) = .lit (.bool c) → wpList P ops Q rest (a.put o.dst (.bool c)) w) :
    wpList P ops Q (o :: rest) a w := by
  refine wpList_plain hg fun K' hK' => ?_
  obtain ⟨v, ps, hrun, hv⟩ := hown.lookup K ht hz (plainElem_bool he false) hkey
  obtain ⟨c, rfl, hc⟩ := plainBool_inv he hv
  simp only [Prod.mk.injEq] at hc
  unfold Oper.wp
  simp [execOp, hop, hm, hx, hrun, Result.andThen]
  exact hK' _ _ (hK c hc.1)
/-- 'm[k]' at bool elements, at the operation, where its guard is met. -/
theorem wpList_lookup_ownG (w : World) {ops : Array Oper} {rest : List Oper} {o : Oper} {a : Act} {Q : Exit → Act → World → Prop}
    (hg : Region.wanted o (yielded ops a.tmps) = true) (m x : Operand) (t : TypeId) (hop : o.op = Op.lookup t m x false)
    (k e : TypeId) (K : Keyed P k) (ht : P.underlying t = some (.map k e)) (he : P.underlying e = some .bool) (hz : (zeroValue e).run P w = .ok (.bool false) w) (b n : Nat) (D : DataW Unit)
    (hm : a.eval m = .map (some b)) (hown : w.ownsMap P k (plainElem P e) b n D) (key : Value) (kl : Lit) (hx : a.eval x = key) (hkey : keyOf P k key = some kl)
    (hK : ∀ c : Bool, D.atKey kl (.lit (.bool false)) = .lit (.bool c) → wpList P ops Q rest (a.put o.dst (.bool c)) w) :
    wpList P ops Q (o :: rest) a w := by
  refine wpList_step fun K' hK' => ?_
  rw [hg, if_pos rfl]
  obtain ⟨v, ps, hrun, hv⟩ := hown.lookup K ht hz (plainElem_bool he false) hkey
  obtain ⟨c, rfl, hc⟩ := plainBool_inv he hv
  simp only [Prod.mk.injEq] at hc
  unfold Oper.wp
  simp [execOp, hop, hm, hx, hrun, Result.andThen]
  exact hK' _ _ (hK c hc.1)
/-- Block b is a map in which just the first q of rs stand, with true. -/
def MapOf (w : World) (P : Program) (k e : TypeId) (b : Nat) (rs : List Nat) (q : Nat) : Prop :=
  ∃ D : DataW Unit, w.ownsMap P k (plainElem P e) b q D ∧ IsMap D ∧ ∀ x : Nat, D.atKey (.int .i64 x) (.lit (.bool false)) = .lit (.bool (decide (x ∈ rs.take q)))
theorem MapOf.made (w : World) (P : Program) (k e : TypeId) (rs : List Nat) : MapOf (w.alloc (.map #[] 0)) P k e w.heap.size rs 0 :=
  ⟨.map [], World.ownsMap_made w P k _, isMap_empty, fun _ => by simp [DataW.atKey]⟩
theorem MapOf.later {rs : List Nat} {q : Nat} {w' : World} (h : MapOf w P k e b rs q) (hb : Below w.heap.size w w') : MapOf w' P k e b rs q := by
  obtain ⟨D, h1, h2, h3⟩ := h
  exact ⟨D, h1.kept (row := none) ⟨hb.os, hb.tape, hb.output, hb.size, fun i hi _ => hb.block i hi⟩ (by simp), h2, h3⟩
theorem mapOf_put {rs : List Nat} {q x : Nat} {w' : World} (h2 : IsMap D) (h3 : ∀ x : Nat, D.atKey (.int .i64 x) (.lit (.bool false)) = .lit (.bool (decide (x ∈ rs.take q)))) (hx : rs[q]? = some x)
    (h : w'.ownsMap P k (plainElem P e) b (q + 1) (D.put (.int .i64 x) (.lit (.bool true)))) : MapOf w' P k e b rs (q + 1) := by
  refine ⟨_, h, h2.put _ _, fun y => ?_⟩
  rw [List.take_add_one, hx]
  by_cases hk : y = x
  · subst hk
    rw [atKey_put_same h2 (show WideAt.IsKeyLit (.int .i64 (y : Int)) from True.intro) _ _]
    simp
  · rw [atKey_put_other (by intro e; injection e with _ e; omega), h3]
    simp [hk]
theorem cell_mapO {w' : World} {a : Addr} {v : Value} {R : Value → Option (DataW Unit × List MemPlace)} (hown : w.ownsMap P k R b n D) (hg : w.grownBy w' (some b)) (h : w.cell? a = some v) : w'.cell? a = some v := by
  refine hg.cell h (fun e => ?_)
  injection e with e
  obtain ⟨es, clock, hb, _⟩ := hown
  rw [← e] at hb
  simp [World.cell?, hb] at h
theorem NatsAt.keep {w' : World} {A : Option Addr} {l : List Nat} (h : NatsAt w A l) (hk : ∀ a v, w.cell? a = some v → w'.cell? a = some v) : NatsAt w' A l := fun hn => by
  obtain ⟨ad, e, hc⟩ := h hn
  exact ⟨ad, e, fun i n hi => hk _ _ (hc i n hi)⟩
/-- A row of truths of the call's own, as an argument. -/
theorem bools_of_own {base : Nat} {t : TypeId} {v : Value} {ds : List Bool} (h : w.ownsRow base t 1 v ds.length (ds.map Value.bool)) (h0 : 0 < ds.length) :
    ∃ g cap, v = .slice (some ⟨g, 0, none⟩) ds.length cap ∧ ds.length ≤ cap ∧ base ≤ g ∧ BoolsAt w (some ⟨g, 0, none⟩) ds := by
  obtain ⟨hl, ⟨_, e0⟩ | ⟨g, cap, cur, rfl, hb, hg, hn, hm, hs, ht⟩⟩ := h
  · omega
  · refine ⟨g, cap, rfl, hn, hb, fun _ => ⟨_, rfl, fun i x hi => ?_⟩⟩
    have hi1 := (List.getElem?_eq_some_iff.1 hi).1
    have h1 : (cur.toList.take (ds.length * 1))[i]? = some (.bool x) := by rw [ht, List.getElem?_map, hi]; rfl
    rw [List.getElem?_take_of_lt (by omega)] at h1
    have h2 : cur[i]? = some (.bool x) := by simpa using h1
    have ha : (⟨g, 0, none⟩ : Addr).add i = ⟨g, i, none⟩ := by unfold Addr.add; split <;> simp_all
    rw [ha]
    simp [World.cell?, hg, h2]
end
end Go.Proofs.YtcddbpdebklhnaaGreatDoor

namespace Go.Proofs.YtcddbpdebklhnaaGreatDoor
open Go.RowKit

section
variable {w : World} {A D : Option Addr} {c d : Nat}
theorem anyA_take {f : Nat → Bool} {l : List Nat} {k x : Nat} (hx : l[k]? = some x) : (l.take (k + 1)).any f = ((l.take k).any f || f x) := by
  rw [List.take_add_one, hx, List.any_append]
  simp
theorem anyA_hit {f : Nat → Bool} {l : List Nat} {k x : Nat} (hx : l[k]? = some x) (hf : f x = true) : l.any f = true := List.any_eq_true.2 ⟨x, List.mem_of_getElem? hx, hf⟩
end

/-- The first k tasks' ready ones. -/
def readyK (ts : List TkP) (ds : List Bool) (k : Nat) : List Nat := (List.range k).filter fun i => !ds.getD i false && ((ts.getD i ⟨⟨#[]⟩, [], 0, 0, 0, 0, 0⟩).after.all fun a => ds.getD a false)
theorem readyK_all (n : ByteArray) (ts : List TkP) (ds : List Bool) : readyK ts ds ts.length = readyP ⟨n, ts⟩ ds := rfl
theorem readyK_len (ts : List TkP) (ds : List Bool) (k : Nat) : (readyK ts ds k).length ≤ k := Nat.le_trans (List.length_filter_le _ _) (by simp)
theorem readyK_next {ts : List TkP} {ds : List Bool} {k : Nat} {t : TkP} (ht : ts[k]? = some t) : readyK ts ds (k + 1) = readyK ts ds k ++ (if (!ds.getD k false && !(t.after.any fun a => !ds.getD a false)) = true then [k] else []) := by
  unfold readyK
  rw [List.range_succ, List.filter_append]
  congr 1
  have h1 : ts.getD k ⟨⟨#[]⟩, [], 0, 0, 0, 0, 0⟩ = t := by rw [List.getD_eq_getElem?_getD, ht]; rfl
  have h2 : (t.after.all fun a => ds.getD a false) = !(t.after.any fun a => !ds.getD a false) := by rw [List.not_any_eq_all_not]; simp
  rw [List.filter_cons, h1, h2]
  rfl
end Go.Proofs.YtcddbpdebklhnaaGreatDoor

namespace Go.Proofs.YtcddbpdebklhnaaGreatDoor
open Go.RowKit

def aftN (ts : List TkP) (i : Nat) : List Nat := (ts.getD i ⟨⟨#[]⟩, [], 0, 0, 0, 0, 0⟩).after
/-- What is ahead of i, each once, as the program's closure finds it. -/
def downP (ts : List TkP) : Nat → Nat → List Nat → List Nat
  | 0, _, l => l
  | f + 1, i, l => (aftN ts i).foldl (fun l p => if l.contains p then l else downP ts f p (l ++ [p])) l
def upP (ts : List TkP) (i : Nat) : List Nat := downP ts (ts.length + 1) i []
def roundP (p : PiP) : Int := match (List.range p.tasks.length).find? (fun i => (upP p.tasks i).contains i) with
  | some i => i
  | none => -1
/-- Places of n tasks, each once. -/
structure Once (n : Nat) (l : List Nat) : Prop where
  low : ∀ x ∈ l, x < n
  nd : l.Nodup
theorem Once.len {n : Nat} {l : List Nat} (h : Once n l) : l.length ≤ n := few_below _ _ h.low h.nd
theorem Once.more {n x : Nat} {l : List Nat} (h : Once n l) (hx : x < n) (hn : l.contains x = false) : Once n (l ++ [x]) := by
  have hn' : x ∉ l := by
    intro hc
    rw [← List.contains_iff_mem, hn] at hc
    cases hc
  refine ⟨fun y hy => ?_, ?_⟩
  · rcases List.mem_append.1 hy with h1 | h1
    · exact h.low y h1
    · rw [List.mem_singleton.1 h1]; exact hx
  · rw [List.nodup_append]
    refine ⟨h.nd, by simp, fun a ha b hb => ?_⟩
    rw [List.mem_singleton.1 hb]
    rintro rfl
    exact hn' ha
theorem foldl_inv {α β : Type} {P : β → Prop} {f : β → α → β} (xs : List α) (h : ∀ b, P b → ∀ x ∈ xs, P (f b x)) : ∀ b, P b → P (xs.foldl f b) := by
  induction xs with
  | nil => exact fun b hb => hb
  | cons x xs ih => exact fun b hb => ih (fun b hb y hy => h b hb y (List.mem_cons_of_mem _ hy)) _ (h b hb x List.mem_cons_self)
theorem downP_once {ts : List TkP} {n : Nat} (ha : ∀ i, ∀ x ∈ aftN ts i, x < n) : ∀ (f i : Nat) (l : List Nat), Once n l → Once n (downP ts f i l) ∧ l.length ≤ (downP ts f i l).length := by
  intro f
  induction f with
  | zero => exact fun i l h => ⟨h, Nat.le_refl _⟩
  | succ f ih =>
    intro i l h
    unfold downP
    refine foldl_inv (P := fun b => Once n b ∧ l.length ≤ b.length) (aftN ts i) (fun b hb x hx => ?_) l ⟨h, Nat.le_refl _⟩
    by_cases hc : b.contains x = true
    · rw [if_pos hc]; exact hb
    · rw [if_neg hc]
      have h1 := ih x _ (hb.1.more (ha i x hx) (Bool.eq_false_iff.2 hc))
      refine ⟨h1.1, ?_⟩
      have h2 := h1.2
      rw [List.length_append] at h2
      have := hb.2
      omega

/-- The order, from where the tasks ds are done. -/
def orderGo (p : PiP) : Nat → List Bool → Option (List Nat)
  | 0, _ => some []
  | k + 1, ds => match readyP p ds with
    | [] => none
    | i :: _ => (orderGo p k (ds.set i true)).map (i :: ·)
def orderP (p : PiP) : Option (List Nat) := orderGo p p.tasks.length (List.replicate p.tasks.length false)
def rowIn (i : Nat) (r : List Nat) (a : Nat) : List Nat := r.set i (max (r.getD i 0) (r.getD a 0))
def rowUp (i : Nat) (r : List Nat) : List Nat := r.set i (r.getD i 0 + 1)
def rowStep (ts : List TkP) (s : List Nat × Nat) (i : Nat) : List Nat × Nat := (rowUp i ((aftN ts i).foldl (rowIn i) s.1), max s.2 ((rowUp i ((aftN ts i).foldl (rowIn i) s.1)).getD i 0))
def longN (ts : List TkP) (l : List Nat) : Nat := (l.foldl (rowStep ts) (List.replicate l.length 0, 0)).2
def longP (p : PiP) : Int := match orderP p with
  | none => 0
  | some l => (longN p.tasks l : Nat)

theorem getD_setN (r : List Nat) (i j v : Nat) (hi : i < r.length) : (r.set i v).getD j 0 = if j = i then v else r.getD j 0 := by
  rw [List.getD_eq_getElem?_getD, List.getElem?_set, List.getD_eq_getElem?_getD]
  by_cases h : i = j
  · subst h
    simp [hi]
  · have h' : ¬ j = i := fun e => h e.symm
    simp [h, h']
theorem rows_len (i : Nat) : ∀ (xs r : List Nat), (xs.foldl (rowIn i) r).length = r.length := by
  intro xs
  induction xs with
  | nil => exact fun _ => rfl
  | cons x xs ih => exact fun r => (ih _).trans (List.length_set ..)
theorem rows_other {i j : Nat} (hj : j ≠ i) : ∀ (xs r : List Nat), i < r.length → (xs.foldl (rowIn i) r).getD j 0 = r.getD j 0 := by
  intro xs
  induction xs with
  | nil => exact fun _ _ => rfl
  | cons x xs ih =>
    intro r hi
    rw [List.foldl_cons, ih _ (by unfold rowIn; rw [List.length_set]; exact hi)]
    unfold rowIn
    rw [getD_setN _ _ _ _ hi, if_neg hj]
theorem rows_le {K i : Nat} : ∀ (xs r : List Nat), i < r.length → (∀ j, r.getD j 0 ≤ K) → ∀ j, (xs.foldl (rowIn i) r).getD j 0 ≤ K := by
  intro xs
  induction xs with
  | nil => exact fun _ _ h => h
  | cons x xs ih =>
    intro r hi h
    refine ih _ (by unfold rowIn; rw [List.length_set]; exact hi) fun j => ?_
    unfold rowIn
    rw [getD_setN _ _ _ _ hi]
    split
    · exact Nat.max_le.2 ⟨h i, h x⟩
    · exact h j
theorem rows_up {i : Nat} : ∀ (xs r : List Nat), i < r.length → r.getD i 0 ≤ (xs.foldl (rowIn i) r).getD i 0 := by
  intro xs
  induction xs with
  | nil => exact fun _ _ => Nat.le_refl _
  | cons x xs ih =>
    intro r hi
    refine Nat.le_trans ?_ (ih _ (by unfold rowIn; rw [List.length_set]; exact hi))
    unfold rowIn
    rw [getD_setN _ _ _ _ hi, if_pos rfl]
    exact Nat.le_max_left _ _
theorem rows_in {i a : Nat} : ∀ (xs r : List Nat), i < r.length → a ∈ xs → r.getD a 0 ≤ (xs.foldl (rowIn i) r).getD i 0 := by
  intro xs
  induction xs with
  | nil => exact fun _ _ h => absurd h List.not_mem_nil
  | cons x xs ih =>
    intro r hi ha
    have hi' : i < (rowIn i r x).length := by unfold rowIn; rw [List.length_set]; exact hi
    rcases List.mem_cons.1 ha with rfl | h1
    · refine Nat.le_trans ?_ (rows_up xs _ hi')
      unfold rowIn
      rw [getD_setN _ _ _ _ hi, if_pos rfl]
      exact Nat.le_max_right _ _
    · by_cases hai : a = i
      · subst hai
        exact rows_up (x :: xs) r hi
      · have h2 := ih _ hi' h1
        have h3 : (rowIn i r x).getD a 0 = r.getD a 0 := by unfold rowIn; rw [getD_setN _ _ _ _ hi, if_neg hai]
        rw [h3] at h2
        exact h2
theorem up_len (i : Nat) (r : List Nat) : (rowUp i r).length = r.length := List.length_set ..
theorem step_len (ts : List TkP) (s : List Nat × Nat) (i : Nat) : (rowStep ts s i).1.length = s.1.length := (up_len _ _).trans (rows_len _ _ _)
theorem up_at (i j : Nat) (r : List Nat) (hi : i < r.length) : (rowUp i r).getD j 0 = if j = i then r.getD i 0 + 1 else r.getD j 0 := getD_setN _ _ _ _ hi
/-- Of a row after a step. -/
theorem step_at {ts : List TkP} {s : List Nat × Nat} {i j : Nat} (hi : i < s.1.length) : (rowStep ts s i).1.getD j 0 = if j = i then ((aftN ts i).foldl (rowIn i) s.1).getD i 0 + 1 else s.1.getD j 0 := by
  show (rowUp i ((aftN ts i).foldl (rowIn i) s.1)).getD j 0 = _
  rw [up_at _ _ _ (by rw [rows_len]; exact hi)]
  split
  · rfl
  · next h => exact rows_other h _ _ hi
theorem step_two {ts : List TkP} {s : List Nat × Nat} {i : Nat} (hi : i < s.1.length) : (rowStep ts s i).2 = max s.2 (((aftN ts i).foldl (rowIn i) s.1).getD i 0 + 1) := by
  show max s.2 ((rowUp i ((aftN ts i).foldl (rowIn i) s.1)).getD i 0) = _
  rw [up_at _ _ _ (by rw [rows_len]; exact hi), if_pos rfl]
theorem fold_few {ts : List TkP} : ∀ (l : List Nat) (s : List Nat × Nat) (K : Nat), (∀ i ∈ l, i < s.1.length) → (∀ j, s.1.getD j 0 ≤ K) → s.2 ≤ K → (l.foldl (rowStep ts) s).2 ≤ K + l.length := by
  intro l
  induction l with
  | nil => exact fun s K _ _ h => h
  | cons i l ih =>
    intro s K hl hr h2
    have hi := hl i List.mem_cons_self
    have h3 := rows_le (aftN ts i) s.1 hi hr
    have := ih (rowStep ts s i) (K + 1) (fun j hj => by rw [step_len]; exact hl j (List.mem_cons_of_mem _ hj)) (fun j => by
      rw [step_at hi]
      split
      · have := h3 i; omega
      · have := hr j; omega) (by rw [step_two hi]; have := h3 i; omega)
    rw [List.foldl_cons, List.length_cons]
    omega

theorem ready_head {p : PiP} {ds : List Bool} {i : Nat} {l : List Nat} (h : readyP p ds = i :: l) : i < p.tasks.length ∧ ds.getD i false = false ∧ ∀ a ∈ aftN p.tasks i, ds.getD a false = true := by
  have hi : i ∈ readyP p ds := by rw [h]; exact List.mem_cons_self
  unfold readyP at hi
  rw [List.mem_filter, List.mem_range] at hi
  have h2 := hi.2
  simp only [Bool.and_eq_true, Bool.not_eq_true', List.all_eq_true] at h2
  exact ⟨hi.1, h2.1, h2.2⟩
theorem count_set : ∀ (ds : List Bool) (i : Nat), i < ds.length → ds.getD i false = false → (ds.set i true).count false + 1 = ds.count false := by
  intro ds
  induction ds with
  | nil => exact fun i h => absurd h (Nat.not_lt_zero _)
  | cons d ds ih =>
    intro i hi hd
    cases i with
    | zero =>
      have : d = false := by simpa using hd
      subst this
      simp
    | succ i =>
      have := ih i (by simpa using hi) (by simpa using hd)
      rw [List.set_cons_succ, List.count_cons, List.count_cons]
      omega
theorem order_low {p : PiP} : ∀ (k : Nat) (ds : List Bool) (l : List Nat), orderGo p k ds = some l → l.length = k ∧ ∀ i ∈ l, i < p.tasks.length := by
  intro k
  induction k with
  | zero =>
    intro ds l h
    obtain rfl : [] = l := by simpa [orderGo] using h
    exact ⟨rfl, fun i hi => absurd hi List.not_mem_nil⟩
  | succ k ih =>
    intro ds l h
    unfold orderGo at h
    split at h
    · cases h
    · next i r hr =>
      obtain ⟨m, hm, rfl⟩ := Option.map_eq_some_iff.1 h
      have h1 := ih _ _ hm
      refine ⟨by rw [List.length_cons, h1.1], fun j hj => ?_⟩
      rcases List.mem_cons.1 hj with rfl | h2
      · exact (ready_head hr).1
      · exact h1.2 j h2
theorem getD_rep (n j : Nat) : (List.replicate n 0).getD j 0 = 0 := by
  rw [List.getD_eq_getElem?_getD, List.getElem?_replicate]
  split <;> rfl
theorem getD_repB (n j : Nat) : (List.replicate n false).getD j false = false := by
  rw [List.getD_eq_getElem?_getD, List.getElem?_replicate]
  split <;> rfl
theorem longP_few (p : PiP) : longP p ≤ p.tasks.length := by
  unfold longP
  split
  · omega
  · next l hl =>
    have h1 := order_low _ _ _ hl
    have h2 := fold_few (ts := p.tasks) l (List.replicate l.length 0, 0) 0 (fun i hi => by simp only [List.length_replicate]; rw [h1.1]; exact h1.2 i hi) (fun j => by rw [getD_rep]; exact Nat.le_refl _) (Nat.le_refl _)
    unfold longN
    rw [h1.1] at h2
    rw [h1.1]
    omega
theorem aftN_flat {ts : List TkP} (h : flatP ts = true) (i : Nat) : aftN ts i = [] := by
  unfold aftN
  rw [List.getD_eq_getElem?_getD]
  cases hi : ts[i]? with
  | none => rfl
  | some t =>
    have h1 := List.all_eq_true.1 h t (List.mem_of_getElem? hi)
    exact List.isEmpty_iff.1 h1
theorem some_false : ∀ (ds : List Bool), 0 < ds.count false → ∃ i, i < ds.length ∧ ds.getD i false = false := by
  intro ds
  induction ds with
  | nil => intro h; simp at h
  | cons d ds ih =>
    intro h
    cases d with
    | false => exact ⟨0, by simp, rfl⟩
    | true =>
      obtain ⟨i, h1, h2⟩ := ih (by simpa using h)
      exact ⟨i + 1, by simp; omega, by simpa using h2⟩
theorem order_flat {p : PiP} (hf : flatP p.tasks = true) : ∀ (k : Nat) (ds : List Bool) (s : List Nat × Nat), ds.length = p.tasks.length → s.1.length = p.tasks.length → k ≤ ds.count false → (∀ j, ds.getD j false = false → s.1.getD j 0 = 0) → s.2 ≤ 1 →
    ∃ l, orderGo p k ds = some l ∧ (l.foldl (rowStep p.tasks) s).2 = if k = 0 then s.2 else 1 := by
  intro k
  induction k with
  | zero => exact fun ds s _ _ _ _ _ => ⟨[], rfl, rfl⟩
  | succ k ih =>
    intro ds s hd hs hk hr h1
    obtain ⟨i0, hi0, hn0⟩ := some_false ds (by omega)
    cases hrd : readyP p ds with
    | nil =>
      exfalso
      have : i0 ∈ readyP p ds := by
        unfold readyP
        rw [List.mem_filter, List.mem_range]
        refine ⟨by omega, ?_⟩
        have := aftN_flat hf i0
        unfold aftN at this
        rw [this, hn0]
        rfl
      rw [hrd] at this
      exact absurd this List.not_mem_nil
    | cons i r =>
      obtain ⟨a1, a2, a3⟩ := ready_head hrd
      have hi : i < s.1.length := by omega
      have h0 := hr i a2
      have hz := aftN_flat hf i
      obtain ⟨l, hl, he⟩ := ih (ds.set i true) (rowStep p.tasks s i) (by rw [List.length_set]; exact hd) (by rw [step_len]; exact hs) (by have := count_set ds i (by omega) a2; omega) (fun j hj => by
        rw [getD_set] at hj
        simp only [Bool.or_eq_false_iff, decide_eq_false_iff_not, not_and] at hj
        have hji : j ≠ i := fun e => hj.1 e (by omega)
        rw [step_at hi, if_neg hji]
        exact hr j hj.2) (by rw [step_two hi, hz]; show max s.2 (s.1.getD i 0 + 1) ≤ 1; omega)
      refine ⟨i :: l, by unfold orderGo; rw [hrd]; show (orderGo p k (ds.set i true)).map _ = _; rw [hl]; rfl, ?_⟩
      rw [List.foldl_cons, he, if_neg (Nat.succ_ne_zero k)]
      split
      · rw [step_two hi, hz]
        show max s.2 (s.1.getD i 0 + 1) = 1
        omega
      · rfl
theorem longP_flat {p : PiP} (h1 : 1 ≤ p.tasks.length) (hf : flatP p.tasks = true) : longP p = 1 := by
  have hl0 : (List.replicate p.tasks.length false).count false = p.tasks.length := by simp
  obtain ⟨l, hl, he⟩ := order_flat hf p.tasks.length (List.replicate p.tasks.length false) (List.replicate p.tasks.length 0, 0) (by simp) (by simp) (by rw [hl0]; exact Nat.le_refl _) (fun j _ => getD_rep _ _) (Nat.zero_le _)
  have ho : orderP p = some l := hl
  have hlen := (order_low _ _ _ hl).1
  unfold longP
  rw [ho]
  show ((longN p.tasks l : Nat) : Int) = 1
  unfold longN
  rw [hlen, he, if_neg (by omega)]
  rfl
theorem order_one {p : PiP} : ∀ (k : Nat) (ds : List Bool) (s : List Nat × Nat) (l : List Nat), ds.length = p.tasks.length → s.1.length = p.tasks.length → ds.count false ≤ k → orderGo p k ds = some l →
    (∀ j, ds.getD j false = true → 1 ≤ s.1.getD j 0) → (∀ j, ds.getD j false = true → aftN p.tasks j ≠ [] → 2 ≤ s.2) → ∀ j, j < p.tasks.length → aftN p.tasks j ≠ [] → 2 ≤ (l.foldl (rowStep p.tasks) s).2 := by
  intro k
  induction k with
  | zero =>
    intro ds s l hd hs hk hl hr h2 j hj ha
    obtain rfl : [] = l := by simpa [orderGo] using hl
    refine h2 j ?_ ha
    cases h : ds.getD j false with
    | true => rfl
    | false =>
      have := count_set ds j (by omega) h
      omega
  | succ k ih =>
    intro ds s l hd hs hk hl hr h2 j hj ha
    unfold orderGo at hl
    split at hl
    · cases hl
    · next i r hrd =>
      obtain ⟨m, hm, rfl⟩ := Option.map_eq_some_iff.1 hl
      obtain ⟨a1, a2, a3⟩ := ready_head hrd
      have hi : i < s.1.length := by omega
      rw [List.foldl_cons]
      refine ih (ds.set i true) (rowStep p.tasks s i) m (by rw [List.length_set]; exact hd) (by rw [step_len]; exact hs) (by have := count_set ds i (by omega) a2; omega) hm (fun x hx => ?_) (fun x hx hax => ?_) j hj ha
      · rw [step_at hi]
        split
        · omega
        · next hne =>
          rw [getD_set] at hx
          simp only [Bool.or_eq_true, decide_eq_true_eq] at hx
          exact hr x (hx.resolve_left fun h => hne h.1)
      · rw [step_two hi]
        by_cases hxi : x = i
        · subst hxi
          obtain ⟨a, haa⟩ := List.exists_mem_of_ne_nil _ hax
          have b1 := hr a (a3 a haa)
          have b2 := rows_in (aftN p.tasks x) s.1 hi haa
          omega
        · rw [getD_set] at hx
          simp only [Bool.or_eq_true, decide_eq_true_eq] at hx
          have := h2 x (hx.resolve_left fun h => hxi h.1) hax
          omega
theorem longP_one {p : PiP} (hf : flatP p.tasks = false) : longP p ≠ 1 := by
  unfold longP
  split
  · omega
  · next l hl =>
    have hlen := (order_low _ _ _ hl).1
    obtain ⟨t, ht, hte⟩ : ∃ t ∈ p.tasks, t.after.isEmpty = false := by
      unfold flatP at hf
      simpa using hf
    obtain ⟨j, hj, rfl⟩ := List.getElem_of_mem ht
    have ha : aftN p.tasks j ≠ [] := by
      unfold aftN
      rw [List.getD_eq_getElem?_getD, List.getElem?_eq_getElem hj]
      intro e
      simp only [Option.getD_some] at e
      rw [e] at hte
      cases hte
    have h2 := order_one p.tasks.length (List.replicate p.tasks.length false) (List.replicate p.tasks.length 0, 0) l (by simp) (by simp) (by simp) hl (fun j hj => by rw [getD_repB] at hj; cases hj) (fun j hj => by rw [getD_repB] at hj; cases hj) j hj ha
    unfold longN
    rw [hlen]
    omega
end Go.Proofs.YtcddbpdebklhnaaGreatDoor
