/-
  A phase once more: all operations from k on wait, by whatever chains, for each one ahead of k. No program is named here.
-/
import Derived.Test.YthmjeibanofliaaPhaseB
namespace Go.Proofs.Ythmjeibanofliaa
open Go.RowKit

section
variable {P : Program} {ops : Array Oper} {md : Region.Mode} {C : World → Prop} {Q : Exit → Act → World → Prop} {k m : Nat}

/-- Where one from k on is ready all ahead of k are listed. -/
structure Gate3 (md : Region.Mode) (ops : Array Oper) (k : Nat) : Prop where
  full : ∀ listed, Closed md ops listed → ∀ j oj, ops[j]? = some oj → k ≤ j → (∀ e ∈ oj.after, Region.binds md e = true → listed.getD e.on false = true) → ∀ i, i < k → listed.getD i false = true
theorem ready_pre3 (G : Gate3 md ops k) {listed : Array Bool} (hc : Closed md ops listed) {i j : Nat} (hi : i < k) (hun : listed.getD i true = false) (hj : j ∈ Region.ready md ops listed) : j < k := by
  rcases Nat.lt_or_ge j k with h | h
  · exact h
  · obtain ⟨_, oj, hoj, hall⟩ := mem_ready.1 hj
    exact (getD_both hun (G.full listed hc j oj hoj h hall i hi)).elim

theorem ph_first3 (G : Gate3 md ops k) {i : Nat} {oi : Oper} {v : Value} (hik : i < k) (hi : ops[i]? = some oi) (hsel : ∀ (j : Nat) (o : Oper) cs b, ops[j]? = some o → o.op ≠ .select cs b) :
    ∀ (f : Nat) (listed : Array Bool) (a : Act), Closed md ops listed →
      (∀ j oj, ops[j]? = some oj → j ≠ i → listed.getD j true = false → (∀ e ∈ oj.after, Region.binds md e = true → e.on ≠ i) → oi.apart ops oj = true) →
      i ∈ Region.ready md ops listed → YieldsIn P ops C oi v a →
      Ph P md ops C Q k m f (listed.setIfInBounds i true) (a.put oi.dst v) → Ph P md ops C Q k m (f + 1) listed a := by
  intro f
  induction f with
  | zero =>
    intro listed a hc _ hr hy H
    have hun := (mem_ready.1 hr).1
    refine ⟨fun h => (by rw [h] at hr; cases hr), fun j hj => ?_⟩
    by_cases hji : j = i
    · subst hji; exact hy.qOp hi H
    · have hjk := ready_pre3 G hc hik hun hj
      have h1 := H.1 j hjk
      rw [getD_set_ne true (Ne.symm hji), (mem_ready.1 hj).1] at h1
      cases h1
  | succ f ih =>
    intro listed a hc hfree hr hy H
    have hun := (mem_ready.1 hr).1
    refine ⟨fun h => (by rw [h] at hr; cases hr), fun j hj => ?_⟩
    by_cases hji : j = i
    · subst hji; exact hy.qOp hi H
    · have h1 := H.2 j (ready_mono hj hji)
      obtain ⟨hjun, oj, hoj, hall⟩ := mem_ready.1 hj
      have hnot : ∀ e ∈ oj.after, Region.binds md e = true → e.on ≠ i := fun e he hb heq => by
        have h1 := hall e he hb
        rw [heq] at h1
        exact getD_both hun h1
      have h2 := qOp_put hoj (hfree j oj hoj hji hjun hnot) (fun cs b => hsel i oi cs b hi) (fun cs b => hsel j oj cs b hoj) hy h1
      have hfree' : ∀ q oq, ops[q]? = some oq → q ≠ i → (listed.setIfInBounds j true).getD q true = false →
          (∀ e ∈ oq.after, Region.binds md e = true → e.on ≠ i) → oi.apart ops oq = true := fun q oq hq hqi hu hno => by
        refine hfree q oq hq hqi ?_ hno
        by_cases hjq : j = q
        · subst hjq; exact hjun
        · rw [getD_set_ne true hjq] at hu; exact hu
      refine qOp_mono (fun a' h3 => ih (listed.setIfInBounds j true) a' (hc.more hj) hfree' (ready_mono hr (Ne.symm hji)) h3.1 ?_) h2
      rw [Array.setIfInBounds_comm _ _ hji]
      exact h3.2

theorem ph_lex3 (G : Gate3 md ops k) (hs : Region.noSelect ops = true) : ∀ (l : List Oper) (q : Nat) (listed : Array Bool) (a : Act), (∀ j, j < l.length → l[j]? = ops[q + j]?) → q + l.length = k → Closed md ops listed →
    (∀ i, i < q → listed.getD i true = true) → preLex md ops l.length q listed = true →
    wpQuiet P ops C (fun a' => ∀ w, C w → wpAny P md ops Q m (marks l.length q listed) a' w) l a → Ph P md ops C Q k m l.length listed a
  | [], q, listed, a, _, hk, _, hq, _, h => ⟨fun i hi => hq i (by simp at hk; omega), h⟩
  | o :: l, q, listed, a, hl, hk, hc, hq, hB, h => by
    have h0 : ops[q]? = some o := by simpa using (hl 0 (by simp)).symm
    simp only [List.length_cons, preLex, Bool.and_eq_true] at hB
    obtain ⟨⟨hr, hf⟩, hB'⟩ := hB
    have hr' : q ∈ Region.ready md ops listed := by simpa using hr
    have hst : qOp P ops C q (wpQuiet P ops C (fun a' => ∀ w, C w → wpAny P md ops Q m (marks (l.length + 1) q listed) a' w) l) a := by unfold qOp; simp only [h0]; exact h
    obtain ⟨v, hy, hK⟩ := yieldsIn_of_qOp h0 hst
    refine ph_first3 G (by simp at hk; omega) h0 (Region.noSelect_spec hs) l.length listed a hc (Region.free_spec h0 hf) hr' hy
      (ph_lex3 G hs l (q + 1) _ _ (fun j hj => by have := hl (j + 1) (by simp; omega); simpa [Nat.add_assoc, Nat.add_comm 1 j] using this) (by simp at hk; omega) (hc.more hr') (fun i hi => ?_) hB' hK)
    by_cases e : q = i
    · subst e
      rcases Nat.lt_or_ge q listed.size with hlt | hge
      · simp [hlt]
      · simp [hge]
    · rw [getD_set_ne true e]; exact hq i (by omega)


def aftL (md : Region.Mode) (ops : Array Oper) (q : Nat) : List Nat := match ops[q]? with
  | some o => (o.after.toList.filter (Region.binds md)).map (·.on)
  | none => []
def downS (md : Region.Mode) (ops : Array Oper) : Nat → List Nat → List Nat
  | 0, S => S
  | q + 1, S => downS md ops q (if S.contains q then (aftL md ops q).filter (fun x => !S.contains x) ++ S else S)
theorem aftL_listed {listed : Array Bool} (hc : Closed md ops listed) {q : Nat} (h : listed.getD q false = true) : ∀ x ∈ aftL md ops q, listed.getD x false = true := by
  intro x hx
  unfold aftL at hx
  split at hx
  · rename_i o ho
    obtain ⟨e, he, rfl⟩ := List.mem_map.1 hx
    obtain ⟨h1, h2⟩ := List.mem_filter.1 he
    exact hc q o ho h e (by simpa using h1) h2
  · cases hx
theorem downS_listed {listed : Array Bool} (hc : Closed md ops listed) : ∀ (q : Nat) (S : List Nat), (∀ x ∈ S, listed.getD x false = true) → ∀ x ∈ downS md ops q S, listed.getD x false = true
  | 0, _, h => h
  | q + 1, S, h => downS_listed hc q _ (fun x hx => by
    split at hx
    · rename_i hq
      rcases List.mem_append.1 hx with hx | hx
      · exact aftL_listed hc (h q (by simpa using hq)) x (List.mem_filter.1 hx).1
      · exact h x hx
    · exact h x hx)
def gateB3 (md : Region.Mode) (ops : Array Oper) (k : Nat) : Bool := (List.range ops.size).all fun j => decide (j < k) || (List.range k).all fun i => (downS md ops ops.size (aftL md ops j)).contains i
theorem gate_of3 (h : gateB3 md ops k = true) : Gate3 md ops k := by
  simp only [gateB3, Bool.or_eq_true, decide_eq_true_eq, List.all_eq_true, List.mem_range] at h
  refine ⟨fun listed hc j oj hoj hj hall i hi => ?_⟩
  rcases h j (Array.getElem?_eq_some_iff.1 hoj).1 with h1 | h1
  · omega
  · refine downS_listed hc ops.size (aftL md ops j) (fun x hx => ?_) i (by simpa using h1 i hi)
    unfold aftL at hx
    rw [hoj] at hx
    obtain ⟨e, he, rfl⟩ := List.mem_map.1 hx
    obtain ⟨h2, h3⟩ := List.mem_filter.1 he
    exact hall e (by simpa using h2) h3

/-- A PHASE: the operations from q up to q + n, by one walk in the order of the text. -/
theorem any_phase3 {a : Act} {w : World} {l : List Oper} {listed : Array Bool} (S : World → Prop) (q n m : Nat) (hs : Region.noSelect l.toArray = true) (hk : l.length = q + n + m)
    (hG : gateB3 .any l.toArray (q + n) = true) (hc : closedB .any l.toArray listed = true) (hd : doneB listed q = true) (hB : preLex .any l.toArray n q listed = true) (hS : S w)
    (h : Nonempty (HeldW S) → wpQuiet P l.toArray (fun w' => ∃ x : HeldW S, w' = x.w) (fun a' => ∀ w', (∃ x : HeldW S, w' = x.w) → wpAny P .any l.toArray Q m (marks n q listed) a' w') ((l.drop q).take n) a) : wpAny P .any l.toArray Q (n + m) listed a w := by
  have hl : ((l.drop q).take n).length = n := by rw [List.length_take, List.length_drop]; omega
  have hph := ph_lex3 (P := P) (C := fun w' => ∃ x : HeldW S, w' = x.w) (Q := Q) (m := m) (gate_of3 hG) hs ((l.drop q).take n) q listed a
    (fun j hj => by rw [hl] at hj; simp [hj]) (by omega) (closed_of hc) (done_of hd) (by rw [hl]; exact hB) (by rw [hl]; exact h ⟨⟨_, hS⟩⟩)
  rw [hl] at hph
  exact wpAny_of_ph n _ a _ (⟨⟨_, hS⟩, rfl⟩ : ∃ x : HeldW S, w = x.w) hph


/-- At the region's beginning. -/
theorem wp_region_phase3 {id : Nat} {a : Act} {w : World} {l : List Oper} (S : World → Prop) (k m : Nat) (hm : P.follows .mixedOrders = true) (hs : Region.noSelect l.toArray = true) (hk : l.length = k + m)
    (hG : gateB3 .any l.toArray k = true) (hc : closedB .any l.toArray (Array.replicate l.length false) = true) (hB : preLex .any l.toArray k 0 (Array.replicate l.length false) = true) (hS : S w.drew)
    (h : Nonempty (HeldW S) → wpQuiet P l.toArray (fun w' => ∃ x : HeldW S, w' = x.w) (fun a' => ∀ w', (∃ x : HeldW S, w' = x.w) → wpAny P .any l.toArray Q m (marks k 0 (Array.replicate l.length false)) a' w') (l.take k) a) : (Code.region id l.toArray true).wp P Q a w := by
  have := any_phase3 (P := P) (Q := Q) (a := a) (w := w.drew) (l := l) (listed := Array.replicate l.length false) S 0 k m hs (by omega) (by rw [Nat.zero_add]; exact hG) hc rfl hB hS (by simpa using h)
  rw [← hk] at this
  exact region_begins l.length hm rfl this
end
end Go.Proofs.Ythmjeibanofliaa
