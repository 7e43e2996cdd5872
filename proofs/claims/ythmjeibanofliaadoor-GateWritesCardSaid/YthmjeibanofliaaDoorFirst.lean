/-
  A region that draws its order: an operation, or a call, that yields one value in every world and leaves the world as it is, may be taken first, whatever the others do. No program is named here.
-/
import Derived.Test.YthmjeibanofliaaDoorKept
namespace Go.Proofs.YthmjeibanofliaaDoor
open Go.RowKit

section
variable {P : Program} {ops : Array Oper} {md : Region.Mode} {Q : Exit → Act → World → Prop}

/-- It yields v in every world, and leaves each as it is. -/
def Still (P : Program) (o : Oper) (v : Value) (a : Act) : Prop := ∀ w, o.quietAt P a (fun w' => w' = w) w v

theorem still_runs {i : Nat} {o : Oper} {v : Value} {a : Act} {w : World} {K : Act → World → Prop} (hi : ops[i]? = some o) (hg : o.guard = none) (hs : Still P o v a) (h : K (a.put o.dst v) w) : wpOp P ops Q i K a w := by
  have hq : qOp P ops (fun w' => w' = w) i (fun a' => a' = a.put o.dst v) a := by
    unfold qOp
    rw [hi]
    simp only
    rw [if_pos (by simp [Region.wanted, hg])]
    exact ⟨v, fun w' e => by rw [e]; exact hs w, rfl⟩
  exact wpOp_of_qOp (C := fun w' => w' = w) rfl (fun a' w' hw ha => by rw [hw, ha]; exact h) hq

/-- Another operation, with the value there already, or not yet: G is what the put of its own value doesn't touch. -/
theorem other_runs {j : Nat} {oj : Oper} {d : Tmp} {v : Value} {G : Act → Prop} {K : Act → World → Prop} {a : Act} {w : World} (hj : ops[j]? = some oj) (hg : oj.guard = none) (h1 : d ∉ oj.looksAt ops) (h2 : oj.dst ≠ some d) (hs : ∀ cs b, oj.op ≠ .select cs b)
    (keep : ∀ a u, G a → G (a.put oj.dst u)) (keepD : ∀ a x, G a → G { a with defers := x :: a.defers }) (hQ : ∀ c a w, Q (.panic c) (a.put (some d) v) w → Q (.panic c) a w) (ha : G a)
    (h : wpOp P ops Q j K (a.put (some d) v) w) : wpOp P ops Q j (fun a' w' => G a' ∧ K (a'.put (some d) v) w') a w := by
  have hw : ∀ a : Act, Region.wanted oj (yielded ops a.tmps) = true := fun a => by simp [Region.wanted, hg]
  have e := execOp_put (ops := ops) oj hs a (some d) v (fun d' e => by injection e with e; rw [← e]; exact h1)
  have hc : ∀ (b : Act) (u : Value), (b.put (some d) v).put oj.dst u = (b.put oj.dst u).put (some d) v := fun b u => Act.put_comm b v u (fun d' e => by injection e with e; rw [← e]; exact h2)
  unfold wpOp at h ⊢
  simp only [hj, hw, if_true] at h ⊢
  rcases h with h | ⟨hk, hl⟩
  · left
    unfold Oper.wp at h ⊢
    rw [e] at h
    cases hr : (execOp a.eval oj).run P w with
    | ok n w' =>
      rw [hr] at h
      cases n <;> simp only [Oper.upon] at h ⊢
      case value u => exact ⟨keep _ _ ha, by rw [← hc]; exact h⟩
      case skip => exact ⟨keep _ _ ha, by rw [← hc]; exact h⟩
      case defer x => exact ⟨keep _ _ (keepD _ x ha), by rw [← hc]; exact h⟩
      case enter f args =>
        refine Calls.mono h fun e w'' he => ?_
        cases e with
        | returned u => exact ⟨keep _ _ ha, by rw [← hc]; exact he⟩
        | panicked c => exact hQ _ _ _ he
        | outgrown => exact he
      case row r args => exact Rows.mono h fun u w'' he => ⟨keep _ _ ha, by rw [← hc]; exact he⟩
    | halt x w' =>
      rw [hr] at h
      cases x <;> simp only [Oper.upon] at h ⊢
      exact hQ _ _ _ h
  · exact .inr ⟨by unfold Oper.asks at hk ⊢; rw [e] at hk; exact hk, hl⟩

def plainB (ops : Array Oper) : Bool := Region.noSelect ops && ops.all fun o => o.guard.isNone
/-- It may be taken first. -/
theorem any_still (hp : plainB ops = true) {i : Nat} {oi : Oper} {d : Tmp} {v : Value} (hi : ops[i]? = some oi) (hd : oi.dst = some d) (hQ : ∀ c a w, Q (.panic c) (a.put (some d) v) w → Q (.panic c) a w) :
    ∀ (f : Nat) (listed : Array Bool) (a : Act) (w : World), Region.free md ops listed i = true → i ∈ Region.ready md ops listed → Still P oi v a →
      wpAny P md ops Q f (listed.setIfInBounds i true) (a.put (some d) v) w → wpAny P md ops Q (f + 1) listed a w := by
  have hsel : Region.noSelect ops = true := by simp only [plainB, Bool.and_eq_true] at hp; exact hp.1
  have hgd : ∀ {j : Nat} {o : Oper}, ops[j]? = some o → o.guard = none := fun {j o} h => by
    simp only [plainB, Bool.and_eq_true, Array.all_eq_true_iff_forall_mem] at hp
    have := hp.2 o (Array.mem_of_getElem? h)
    simpa using this
  intro f
  induction f with
  | zero =>
    intro listed a w _ hr hst H
    refine ⟨fun h => (by rw [h] at hr; cases hr), fun j hj => ?_⟩
    by_cases e : j = i
    · rw [e]
      exact still_runs hi (hgd hi) hst (by rw [hd]; exact H)
    · have := ready_mono hj e
      rw [H.1] at this
      cases this
  | succ f ih =>
    intro listed a w hfr hr hst H
    refine ⟨fun h => (by rw [h] at hr; cases hr), fun j hj => ?_⟩
    by_cases e : j = i
    · rw [e]
      exact still_runs hi (hgd hi) hst (by rw [hd]; exact H)
    · obtain ⟨hjun, oj, hoj, hall⟩ := mem_ready.1 hj
      have hiun := (mem_ready.1 hr).1
      have hno : ∀ x ∈ oj.after, Region.binds md x = true → x.on ≠ i := fun x hx hb hon => by
        have h1 := hall x hx hb
        rw [hon] at h1
        rcases Nat.lt_or_ge i listed.size with h' | h'
        · simp [h'] at hiun h1
          rw [hiun] at h1
          cases h1
        · simp [Array.getElem?_eq_none h'] at h1
      have hap := Region.free_spec hi hfr j oj hoj e hjun hno
      obtain ⟨a1, a2, a3⟩ := Oper.apart_spec hap
      have hsi : ∀ cs b, oi.op ≠ .select cs b := fun cs b => Region.noSelect_spec hsel i oi cs b hi
      have keep : ∀ (a : Act) (u : Value), Still P oi v a → Still P oi v (a.put oj.dst u) := fun a u h w => by
        have h1 := h w
        unfold Oper.quietAt at h1 ⊢
        rw [execOp_put (ops := ops) oi hsi a oj.dst u a3]
        exact h1
      have hfr2 : Region.free md ops (listed.setIfInBounds j true) i = true := by
        unfold Region.free at hfr ⊢
        rw [hi] at hfr ⊢
        simp only [List.all_eq_true, List.mem_range] at hfr ⊢
        intro q hq
        have h1 := hfr q hq
        by_cases hqj : j = q
        · subst hqj
          rcases Nat.lt_or_ge j listed.size with h' | h'
          · simp [h']
          · simp [h']
        · rw [getD_set_ne true hqj]
          exact h1
      refine wpOp_mono (fun a' w' h3 => ?_) (other_runs (G := Still P oi v) hoj (hgd hoj) (a1 d hd) (a2 d hd) (fun cs b => Region.noSelect_spec hsel j oj cs b hoj) keep (fun a x h => h) hQ hst (H.2 j (ready_mono hj e)))
      refine ih (listed.setIfInBounds j true) a' w' hfr2 (ready_mono hr (Ne.symm e)) h3.1 ?_
      rw [Array.setIfInBounds_comm _ _ e]
      exact h3.2

/-- The first n of the text's order are taken first, one by one. -/
def stillL (P : Program) : List Oper → Act → (Act → Prop) → Prop
  | [], a, R => R a
  | o :: l, a, R => ∃ v, Still P o v a ∧ stillL P l (a.put o.dst v) R
def firstB (md : Region.Mode) (ops : Array Oper) : Nat → Nat → Array Bool → Bool
  | 0, _, _ => true
  | f + 1, q, listed => (Region.ready md ops listed).contains q && Region.free md ops listed q && ((ops[q]?).bind (·.dst)).isSome && firstB md ops f (q + 1) (listed.setIfInBounds q true)
def markL : Nat → Nat → Array Bool → Array Bool
  | 0, _, listed => listed
  | f + 1, q, listed => markL f (q + 1) (listed.setIfInBounds q true)
theorem any_stills (hp : plainB ops = true) (hQ : ∀ c d v a w, Q (.panic c) (a.put (some d) v) w → Q (.panic c) a w) (m : Nat) : ∀ (l : List Oper) (q : Nat) (listed : Array Bool) (a : Act) (w : World), (∀ j, j < l.length → l[j]? = ops[q + j]?) →
    firstB md ops l.length q listed = true → stillL P l a (fun a' => wpAny P md ops Q m (markL l.length q listed) a' w) → wpAny P md ops Q (l.length + m) listed a w
  | [], q, listed, a, w, _, _, h => by rw [List.length_nil, Nat.zero_add]; exact h
  | o :: l, q, listed, a, w, hl, hB, h => by
    have h0 : ops[q]? = some o := by simpa using (hl 0 (by simp)).symm
    simp only [List.length_cons, firstB, Bool.and_eq_true, h0] at hB
    obtain ⟨⟨⟨hr, hf⟩, hd⟩, hB'⟩ := hB
    obtain ⟨v, hst, h'⟩ := h
    cases hdd : o.dst with
    | none => simp [hdd] at hd
    | some d =>
      rw [hdd] at h'
      have ih := any_stills hp hQ m l (q + 1) (listed.setIfInBounds q true) (a.put (some d) v) w (fun j hj => by have := hl (j + 1) (by simp; omega); simpa [Nat.add_assoc, Nat.add_comm 1 j] using this) hB' h'
      rw [List.length_cons, show l.length + 1 + m = (l.length + m) + 1 by omega]
      exact any_still hp h0 hdd (fun c a w => hQ c d v a w) (l.length + m) listed a w hf (by simpa using hr) hst ih
/-- THE BEGINNING. -/
theorem wp_region_first {id : Nat} {a : Act} {w : World} {l : List Oper} (n m : Nat) (hm : P.follows .mixedOrders = true) (hp : plainB l.toArray = true) (hn : l.length = n + m) (hB : firstB .any l.toArray n 0 (Array.replicate l.length false) = true)
    (hQ : ∀ c d v a w, Q (.panic c) (a.put (some d) v) w → Q (.panic c) a w)
    (h : stillL P (l.take n) a (fun a' => wpAny P .any l.toArray Q m (markL n 0 (Array.replicate l.length false)) a' w.drew)) : (Code.region id l.toArray true).wp P Q a w := by
  refine wp_region_any hm ?_
  have hl : (l.take n).length = n := by rw [List.length_take]; omega
  have := any_stills (P := P) (md := .any) hp hQ m (l.take n) 0 (Array.replicate l.length false) a w.drew (fun j hj => by rw [hl] at hj; simp [hj]) (by rw [hl]; exact hB) (by rw [hl]; exact h)
  rw [hl, ← hn] at this
  simpa using this
theorem stillL_val {o : Oper} {l : List Oper} {a : Act} {R : Act → Prop} (v : Value) (h : ∀ w, (execOp a.eval o).run P w = .ok (.value v) w) (k : stillL P l (a.put o.dst v) R) : stillL P (o :: l) a R :=
  ⟨v, fun w => by unfold Oper.quietAt; rw [h w]; exact ⟨rfl, rfl⟩, k⟩
theorem stillL_call {o : Oper} {l : List Oper} {a : Act} {R : Act → Prop} (v : Value) (f : FuncId) (args : Array Value) (h : ∀ w, (execOp a.eval o).run P w = .ok (.enter f args) w) (hc : ∀ w, Calls P f args w fun e w' => e = .returned v ∧ w = w') (k : stillL P l (a.put o.dst v) R) : stillL P (o :: l) a R :=
  ⟨v, fun w => by unfold Oper.quietAt; rw [h w]; exact ⟨rfl, (hc w).mono fun _ _ ⟨x, y⟩ => ⟨x, y.symm⟩⟩, k⟩
end
end Go.Proofs.YthmjeibanofliaaDoor
