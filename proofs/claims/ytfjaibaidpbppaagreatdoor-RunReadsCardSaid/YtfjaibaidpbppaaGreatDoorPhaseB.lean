/-
  A region that draws its order in two phases: the first k operations all come ahead of the others, whatever the order; they read, and their calls keep a condition S on the world: one walk in the order of the text serves for them. What follows is asked of whatever order is picked from there on. No program is named here. A region that draws its order, in phases that may begin anywhere: the operations from q up to k all come ahead of those from k on (by whatever chain of waiting), and one walk in the order of the text serves for them; and what lies between two phases: a call beside a piece of memory that is made and read. No program is named here.
-/
import Derived.Test.YtfjaibaidpbppaaGreatDoorFirst
namespace Go.Proofs.YtfjaibaidpbppaaGreatDoor
open Go.RowKit

section
variable {P : Program} {ops : Array Oper} {md : Region.Mode} {C : World → Prop} {Q : Exit → Act → World → Prop} {k m : Nat}

/-- No operation from k on may come up ahead of one below k. -/
structure Gate (md : Region.Mode) (ops : Array Oper) (k : Nat) : Prop where
  gate : ∀ j oj, ops[j]? = some oj → k ≤ j → ∃ e ∈ oj.after, Region.binds md e = true ∧ e.on + 1 = k
  chain : ∀ i, i + 1 < k → ∃ j oj, i < j ∧ j < k ∧ ops[j]? = some oj ∧ ∃ e ∈ oj.after, Region.binds md e = true ∧ e.on = i

/-- What has come up came up behind all that it waits for. -/
def Closed (md : Region.Mode) (ops : Array Oper) (listed : Array Bool) : Prop :=
  ∀ j oj, ops[j]? = some oj → listed.getD j false = true → ∀ e ∈ oj.after, Region.binds md e = true → listed.getD e.on false = true

theorem all_listed (G : Gate md ops k) {listed : Array Bool} (hc : Closed md ops listed) (hk : listed.getD (k - 1) false = true) : ∀ d i, i + d + 1 = k → listed.getD i false = true := by
  intro d
  induction d using Nat.strongRecOn with
  | ind d ih =>
    intro i hi
    by_cases h : i + 1 = k
    · have : i = k - 1 := by omega
      rw [this]; exact hk
    · obtain ⟨j, oj, h1, h2, h3, e, he, hb, ho⟩ := G.chain i (by omega)
      have := hc j oj h3 (ih (k - 1 - j) (by omega) j (by omega)) e he hb
      rw [ho] at this
      exact this

theorem getD_both {listed : Array Bool} {i : Nat} (h1 : listed.getD i true = false) (h2 : listed.getD i false = true) : False := by
  rcases Nat.lt_or_ge i listed.size with h | h
  · simp [h] at h1 h2; rw [h1] at h2; cases h2
  · simp [Array.getElem?_eq_none h] at h2

theorem ready_pre (G : Gate md ops k) {listed : Array Bool} (hc : Closed md ops listed) {i j : Nat} (hi : i < k) (hun : listed.getD i true = false) (hj : j ∈ Region.ready md ops listed) : j < k := by
  rcases Nat.lt_or_ge j k with h | h
  · exact h
  · obtain ⟨_, oj, hoj, hall⟩ := mem_ready.1 hj
    obtain ⟨e, he, hb, ho⟩ := G.gate j oj hoj h
    have h1 := hall e he hb
    rw [show e.on = k - 1 by omega] at h1
    exact (getD_both hun (all_listed G hc h1 (k - 1 - i) i (by omega))).elim

theorem Closed.more {listed : Array Bool} (hc : Closed md ops listed) {i : Nat} (hi : i ∈ Region.ready md ops listed) : Closed md ops (listed.setIfInBounds i true) := by
  intro j oj hoj hl e he hb
  by_cases hij : i = j
  · subst hij
    obtain ⟨_, o, ho, hall⟩ := mem_ready.1 hi
    rw [hoj] at ho
    injection ho with ho
    subst ho
    exact getD_set_true (hall e he hb)
  · rw [getD_set_ne false hij] at hl
    exact getD_set_true (hc j oj hoj hl e he hb)

/-- Whatever order is picked, as long as some of the first k have not come up; then: whatever order is picked of the rest. -/
def Ph (P : Program) (md : Region.Mode) (ops : Array Oper) (C : World → Prop) (Q : Exit → Act → World → Prop) (k m : Nat) : Nat → Array Bool → Act → Prop
  | 0, listed, a => (∀ i, i < k → listed.getD i true = true) ∧ ∀ w, C w → wpAny P md ops Q m listed a w
  | f + 1, listed, a => Region.ready md ops listed ≠ [] ∧ ∀ i ∈ Region.ready md ops listed, qOp P ops C i (Ph P md ops C Q k m f (listed.setIfInBounds i true)) a

theorem wpAny_of_ph : ∀ (f : Nat) (listed : Array Bool) (a : Act) (w : World), C w → Ph P md ops C Q k m f listed a → wpAny P md ops Q (f + m) listed a w
  | 0, listed, a, w, hw, h => by rw [Nat.zero_add]; exact h.2 w hw
  | f + 1, listed, a, w, hw, h => by
    rw [show f + 1 + m = (f + m) + 1 by omega]
    exact ⟨fun h0 => absurd h0 h.1, fun i hi => wpOp_of_qOp hw (fun a' w' hw' h' => wpAny_of_ph f _ a' w' hw' h') (h.2 i hi)⟩

theorem ph_first (G : Gate md ops k) {i : Nat} {oi : Oper} {v : Value} (hik : i < k) (hi : ops[i]? = some oi) (hsel : ∀ (j : Nat) (o : Oper) cs b, ops[j]? = some o → o.op ≠ .select cs b) :
    ∀ (f : Nat) (listed : Array Bool) (a : Act), Closed md ops listed →
      (∀ j oj, ops[j]? = some oj → j ≠ i → listed.getD j true = false → (∀ e ∈ oj.after, Region.binds md e = true → e.on ≠ i) → oi.apart ops oj = true) →
      i ∈ Region.ready md ops listed → YieldsIn P ops C oi v a →
      Ph P md ops C Q k m f (listed.setIfInBounds i true) (a.put oi.dst v) → Ph P md ops C Q k m (f + 1) listed a := by
  intro f
  induction f with
  | zero =>
    intro listed a hc _ hr hy H
    have hun := (mem_ready.1 hr).1
    refine ⟨fun h => (by rw [h] at hr; cases hr), fun j hj => ?_⟩
    by_cases hji : j = i
    · subst hji; exact hy.qOp hi H
    · have hjk := ready_pre G hc hik hun hj
      have h1 := H.1 j hjk
      rw [getD_set_ne true (Ne.symm hji), (mem_ready.1 hj).1] at h1
      cases h1
  | succ f ih =>
    intro listed a hc hfree hr hy H
    have hun := (mem_ready.1 hr).1
    refine ⟨fun h => (by rw [h] at hr; cases hr), fun j hj => ?_⟩
    by_cases hji : j = i
    · subst hji; exact hy.qOp hi H
    · have h1 := H.2 j (ready_mono hj hji)
      obtain ⟨hjun, oj, hoj, hall⟩ := mem_ready.1 hj
      have hnot : ∀ e ∈ oj.after, Region.binds md e = true → e.on ≠ i := fun e he hb heq => by
        have h1 := hall e he hb
        rw [heq] at h1
        exact getD_both hun h1
      have h2 := qOp_put hoj (hfree j oj hoj hji hjun hnot) (fun cs b => hsel i oi cs b hi) (fun cs b => hsel j oj cs b hoj) hy h1
      have hfree' : ∀ q oq, ops[q]? = some oq → q ≠ i → (listed.setIfInBounds j true).getD q true = false →
          (∀ e ∈ oq.after, Region.binds md e = true → e.on ≠ i) → oi.apart ops oq = true := fun q oq hq hqi hu hno => by
        refine hfree q oq hq hqi ?_ hno
        by_cases hjq : j = q
        · subst hjq; exact hjun
        · rw [getD_set_ne true hjq] at hu; exact hu
      refine qOp_mono (fun a' h3 => ih (listed.setIfInBounds j true) a' (hc.more hj) hfree' (ready_mono hr (Ne.symm hji)) h3.1 ?_) h2
      rw [Array.setIfInBounds_comm _ _ hji]
      exact h3.2

def preLex (md : Region.Mode) (ops : Array Oper) : Nat → Nat → Array Bool → Bool
  | 0, _, _ => true
  | f + 1, q, listed => (Region.ready md ops listed).contains q && Region.free md ops listed q && preLex md ops f (q + 1) (listed.setIfInBounds q true)
def marks : Nat → Nat → Array Bool → Array Bool
  | 0, _, listed => listed
  | f + 1, q, listed => marks f (q + 1) (listed.setIfInBounds q true)

theorem ph_lex (G : Gate md ops k) (hs : Region.noSelect ops = true) : ∀ (l : List Oper) (q : Nat) (listed : Array Bool) (a : Act), (∀ j, j < l.length → l[j]? = ops[q + j]?) → q + l.length = k → Closed md ops listed →
    (∀ i, i < q → listed.getD i true = true) → preLex md ops l.length q listed = true →
    wpQuiet P ops C (fun a' => ∀ w, C w → wpAny P md ops Q m (marks l.length q listed) a' w) l a → Ph P md ops C Q k m l.length listed a
  | [], q, listed, a, _, hk, _, hq, _, h => ⟨fun i hi => hq i (by simp at hk; omega), h⟩
  | o :: l, q, listed, a, hl, hk, hc, hq, hB, h => by
    have h0 : ops[q]? = some o := by simpa using (hl 0 (by simp)).symm
    simp only [List.length_cons, preLex, Bool.and_eq_true] at hB
    obtain ⟨⟨hr, hf⟩, hB'⟩ := hB
    have hr' : q ∈ Region.ready md ops listed := by simpa using hr
    have hst : qOp P ops C q (wpQuiet P ops C (fun a' => ∀ w, C w → wpAny P md ops Q m (marks (l.length + 1) q listed) a' w) l) a := by unfold qOp; simp only [h0]; exact h
    obtain ⟨v, hy, hK⟩ := yieldsIn_of_qOp h0 hst
    refine ph_first G (by simp at hk; omega) h0 (Region.noSelect_spec hs) l.length listed a hc (Region.free_spec h0 hf) hr' hy
      (ph_lex G hs l (q + 1) _ _ (fun j hj => by have := hl (j + 1) (by simp; omega); simpa [Nat.add_assoc, Nat.add_comm 1 j] using this) (by simp at hk; omega) (hc.more hr') (fun i hi => ?_) hB' hK)
    by_cases e : q = i
    · subst e
      rcases Nat.lt_or_ge q listed.size with hlt | hge
      · simp [hlt]
      · simp [hge]
    · rw [getD_set_ne true e]; exact hq i (by omega)

def gateB (md : Region.Mode) (ops : Array Oper) (k : Nat) : Bool :=
  decide (k ≤ ops.size) && (List.range ops.size).all fun j => match ops[j]? with
    | none => true
    | some oj => if k ≤ j then oj.after.any (fun e => Region.binds md e && e.on + 1 == k)
      else j + 1 == k || (List.range k).any fun q => decide (j < q) && match ops[q]? with
        | some o => o.after.any (fun e => Region.binds md e && e.on == j)
        | none => false
theorem gate_of (h : gateB md ops k = true) : Gate md ops k := by
  simp only [gateB, Bool.and_eq_true, decide_eq_true_eq, List.all_eq_true, List.mem_range] at h
  obtain ⟨hks, h⟩ := h
  refine ⟨fun j oj hoj hj => ?_, fun i hi => ?_⟩
  · have h1 := h j (Array.getElem?_eq_some_iff.1 hoj).1
    simp only [hoj, hj, if_true] at h1
    obtain ⟨e, he, hb⟩ := Array.any_eq_true'.1 h1
    simp only [Bool.and_eq_true, beq_iff_eq] at hb
    exact ⟨e, he, hb.1, hb.2⟩
  · have hlt : i < ops.size := by omega
    have h1 := h i hlt
    rw [Array.getElem?_eq_getElem hlt] at h1
    simp only [show ¬ k ≤ i by omega, if_false, Bool.or_eq_true, beq_iff_eq, show ¬ i + 1 = k by omega, false_or, List.any_eq_true, List.mem_range, Bool.and_eq_true, decide_eq_true_eq] at h1
    obtain ⟨q, hq, hiq, h2⟩ := h1
    split at h2
    · rename_i o ho
      obtain ⟨e, he, hb⟩ := Array.any_eq_true'.1 h2
      simp only [Bool.and_eq_true, beq_iff_eq] at hb
      exact ⟨q, o, hiq, hq, ho, e, he, hb.1, hb.2⟩
    · cases h2

/-- THE BEGINNING: the first k operations by one walk in the order of the text. -/
theorem wp_region_phase {id : Nat} {a : Act} {w : World} {l : List Oper} (S : World → Prop) (k m : Nat) (hm : P.follows .mixedOrders = true) (hs : Region.noSelect l.toArray = true) (hk : l.length = k + m)
    (hG : gateB .any l.toArray k = true) (hB : preLex .any l.toArray k 0 (Array.replicate l.length false) = true) (hS : S w.drew)
    (h : Nonempty (HeldW S) → wpQuiet P l.toArray (fun w' => ∃ x : HeldW S, w' = x.w) (fun a' => ∀ w', (∃ x : HeldW S, w' = x.w) → wpAny P .any l.toArray Q m (marks k 0 (Array.replicate l.length false)) a' w') (l.take k) a) : (Code.region id l.toArray true).wp P Q a w := by
  have hl : (l.take k).length = k := by rw [List.length_take]; omega
  have hc : Closed .any l.toArray (Array.replicate l.length false) := fun j oj hoj hlist => by
    have hj : j < l.length := by have := (Array.getElem?_eq_some_iff.1 hoj).1; simpa using this
    simp [hj] at hlist
  have hph := ph_lex (P := P) (C := fun w' => ∃ x : HeldW S, w' = x.w) (Q := Q) (m := m) (gate_of hG) hs (l.take k) 0 (Array.replicate l.length false) a
    (fun j hj => by rw [hl] at hj; simp [hj]) (by omega) hc (fun i hi => absurd hi (by omega)) (by rw [hl]; exact hB) (by rw [hl]; exact h ⟨⟨_, hS⟩⟩)
  rw [hl] at hph
  refine wp_region_any hm ?_
  have := wpAny_of_ph k _ a _ (⟨⟨_, hS⟩, rfl⟩ : ∃ x : HeldW S, w.drew = x.w) hph
  rw [← hk] at this
  simpa using this

end
end Go.Proofs.YtfjaibaidpbppaaGreatDoor

namespace Go.Proofs.YtfjaibaidpbppaaGreatDoor
open Go.RowKit

section
variable {P : Program} {ops : Array Oper} {md : Region.Mode} {C : World → Prop} {Q : Exit → Act → World → Prop} {k m : Nat}

/-- No operation from k on may come up ahead of one below k: it waits for the one at k - 1, or for one behind that. -/
structure Gate2 (md : Region.Mode) (ops : Array Oper) (k : Nat) : Prop where
  gate : ∀ j oj, ops[j]? = some oj → k ≤ j → ∃ e ∈ oj.after, Region.binds md e = true ∧ k ≤ e.on + 1 ∧ e.on < j ∧ e.on < ops.size
  chain : ∀ i, i + 1 < k → ∃ j oj, i < j ∧ j < k ∧ ops[j]? = some oj ∧ ∃ e ∈ oj.after, Region.binds md e = true ∧ e.on = i

theorem all_listed2 (G : Gate2 md ops k) {listed : Array Bool} (hc : Closed md ops listed) (hk : listed.getD (k - 1) false = true) : ∀ d i, i + d + 1 = k → listed.getD i false = true := by
  intro d
  induction d using Nat.strongRecOn with
  | ind d ih =>
    intro i hi
    by_cases h : i + 1 = k
    · have : i = k - 1 := by omega
      rw [this]; exact hk
    · obtain ⟨j, oj, h1, h2, h3, e, he, hb, ho⟩ := G.chain i (by omega)
      have := hc j oj h3 (ih (k - 1 - j) (by omega) j (by omega)) e he hb
      rw [ho] at this
      exact this

theorem gate_listed (G : Gate2 md ops k) {listed : Array Bool} (hc : Closed md ops listed) : ∀ j, k ≤ j + 1 → j < ops.size → listed.getD j false = true → listed.getD (k - 1) false = true := by
  intro j
  induction j using Nat.strongRecOn with
  | ind j ih =>
    intro hj hs hl
    by_cases h : j + 1 = k
    · have : j = k - 1 := by omega
      rw [← this]; exact hl
    · obtain ⟨e, he, hb, h1, h2, h3⟩ := G.gate j ops[j] (Array.getElem?_eq_getElem hs) (by omega)
      exact ih e.on h2 h1 h3 (hc j ops[j] (Array.getElem?_eq_getElem hs) hl e he hb)

theorem ready_pre2 (G : Gate2 md ops k) {listed : Array Bool} (hc : Closed md ops listed) {i j : Nat} (hi : i < k) (hun : listed.getD i true = false) (hj : j ∈ Region.ready md ops listed) : j < k := by
  rcases Nat.lt_or_ge j k with h | h
  · exact h
  · obtain ⟨_, oj, hoj, hall⟩ := mem_ready.1 hj
    obtain ⟨e, he, hb, h1, h2, h3⟩ := G.gate j oj hoj h
    exact (getD_both hun (all_listed2 G hc (gate_listed G hc e.on h1 h3 (hall e he hb)) (k - 1 - i) i (by omega))).elim

theorem ph_first2 (G : Gate2 md ops k) {i : Nat} {oi : Oper} {v : Value} (hik : i < k) (hi : ops[i]? = some oi) (hsel : ∀ (j : Nat) (o : Oper) cs b, ops[j]? = some o → o.op ≠ .select cs b) :
    ∀ (f : Nat) (listed : Array Bool) (a : Act), Closed md ops listed →
      (∀ j oj, ops[j]? = some oj → j ≠ i → listed.getD j true = false → (∀ e ∈ oj.after, Region.binds md e = true → e.on ≠ i) → oi.apart ops oj = true) →
      i ∈ Region.ready md ops listed → YieldsIn P ops C oi v a →
      Ph P md ops C Q k m f (listed.setIfInBounds i true) (a.put oi.dst v) → Ph P md ops C Q k m (f + 1) listed a := by
  intro f
  induction f with
  | zero =>
    intro listed a hc _ hr hy H
    have hun := (mem_ready.1 hr).1
    refine ⟨fun h => (by rw [h] at hr; cases hr), fun j hj => ?_⟩
    by_cases hji : j = i
    · subst hji; exact hy.qOp hi H
    · have hjk := ready_pre2 G hc hik hun hj
      have h1 := H.1 j hjk
      rw [getD_set_ne true (Ne.symm hji), (mem_ready.1 hj).1] at h1
      cases h1
  | succ f ih =>
    intro listed a hc hfree hr hy H
    have hun := (mem_ready.1 hr).1
    refine ⟨fun h => (by rw [h] at hr; cases hr), fun j hj => ?_⟩
    by_cases hji : j = i
    · subst hji; exact hy.qOp hi H
    · have h1 := H.2 j (ready_mono hj hji)
      obtain ⟨hjun, oj, hoj, hall⟩ := mem_ready.1 hj
      have hnot : ∀ e ∈ oj.after, Region.binds md e = true → e.on ≠ i := fun e he hb heq => by
        have h1 := hall e he hb
        rw [heq] at h1
        exact getD_both hun h1
      have h2 := qOp_put hoj (hfree j oj hoj hji hjun hnot) (fun cs b => hsel i oi cs b hi) (fun cs b => hsel j oj cs b hoj) hy h1
      have hfree' : ∀ q oq, ops[q]? = some oq → q ≠ i → (listed.setIfInBounds j true).getD q true = false →
          (∀ e ∈ oq.after, Region.binds md e = true → e.on ≠ i) → oi.apart ops oq = true := fun q oq hq hqi hu hno => by
        refine hfree q oq hq hqi ?_ hno
        by_cases hjq : j = q
        · subst hjq; exact hjun
        · rw [getD_set_ne true hjq] at hu; exact hu
      refine qOp_mono (fun a' h3 => ih (listed.setIfInBounds j true) a' (hc.more hj) hfree' (ready_mono hr (Ne.symm hji)) h3.1 ?_) h2
      rw [Array.setIfInBounds_comm _ _ hji]
      exact h3.2

theorem ph_lex2 (G : Gate2 md ops k) (hs : Region.noSelect ops = true) : ∀ (l : List Oper) (q : Nat) (listed : Array Bool) (a : Act), (∀ j, j < l.length → l[j]? = ops[q + j]?) → q + l.length = k → Closed md ops listed →
    (∀ i, i < q → listed.getD i true = true) → preLex md ops l.length q listed = true →
    wpQuiet P ops C (fun a' => ∀ w, C w → wpAny P md ops Q m (marks l.length q listed) a' w) l a → Ph P md ops C Q k m l.length listed a
  | [], q, listed, a, _, hk, _, hq, _, h => ⟨fun i hi => hq i (by simp at hk; omega), h⟩
  | o :: l, q, listed, a, hl, hk, hc, hq, hB, h => by
    have h0 : ops[q]? = some o := by simpa using (hl 0 (by simp)).symm
    simp only [List.length_cons, preLex, Bool.and_eq_true] at hB
    obtain ⟨⟨hr, hf⟩, hB'⟩ := hB
    have hr' : q ∈ Region.ready md ops listed := by simpa using hr
    have hst : qOp P ops C q (wpQuiet P ops C (fun a' => ∀ w, C w → wpAny P md ops Q m (marks (l.length + 1) q listed) a' w) l) a := by unfold qOp; simp only [h0]; exact h
    obtain ⟨v, hy, hK⟩ := yieldsIn_of_qOp h0 hst
    refine ph_first2 G (by simp at hk; omega) h0 (Region.noSelect_spec hs) l.length listed a hc (Region.free_spec h0 hf) hr' hy
      (ph_lex2 G hs l (q + 1) _ _ (fun j hj => by have := hl (j + 1) (by simp; omega); simpa [Nat.add_assoc, Nat.add_comm 1 j] using this) (by simp at hk; omega) (hc.more hr') (fun i hi => ?_) hB' hK)
    by_cases e : q = i
    · subst e
      rcases Nat.lt_or_ge q listed.size with hlt | hge
      · simp [hlt]
      · simp [hge]
    · rw [getD_set_ne true e]; exact hq i (by omega)

def gateB2 (md : Region.Mode) (ops : Array Oper) (k : Nat) : Bool :=
  decide (k ≤ ops.size) && (List.range ops.size).all fun j => match ops[j]? with
    | none => true
    | some oj => if k ≤ j then oj.after.any (fun e => Region.binds md e && decide (k ≤ e.on + 1) && decide (e.on < j) && decide (e.on < ops.size))
      else j + 1 == k || (List.range k).any fun q => decide (j < q) && match ops[q]? with
        | some o => o.after.any (fun e => Region.binds md e && e.on == j)
        | none => false
theorem gate_of2 (h : gateB2 md ops k = true) : Gate2 md ops k := by
  simp only [gateB2, Bool.and_eq_true, decide_eq_true_eq, List.all_eq_true, List.mem_range] at h
  obtain ⟨hks, h⟩ := h
  refine ⟨fun j oj hoj hj => ?_, fun i hi => ?_⟩
  · have h1 := h j (Array.getElem?_eq_some_iff.1 hoj).1
    simp only [hoj, hj, if_true] at h1
    obtain ⟨e, he, hb⟩ := Array.any_eq_true'.1 h1
    simp only [Bool.and_eq_true, decide_eq_true_eq] at hb
    exact ⟨e, he, hb.1.1.1, hb.1.1.2, hb.1.2, hb.2⟩
  · have hlt : i < ops.size := by omega
    have h1 := h i hlt
    rw [Array.getElem?_eq_getElem hlt] at h1
    simp only [show ¬ k ≤ i by omega, if_false, Bool.or_eq_true, beq_iff_eq, show ¬ i + 1 = k by omega, false_or, List.any_eq_true, List.mem_range, Bool.and_eq_true, decide_eq_true_eq] at h1
    obtain ⟨q, hq, hiq, h2⟩ := h1
    split at h2
    · rename_i o ho
      obtain ⟨e, he, hb⟩ := Array.any_eq_true'.1 h2
      simp only [Bool.and_eq_true, beq_iff_eq] at hb
      exact ⟨q, o, hiq, hq, ho, e, he, hb.1, hb.2⟩
    · cases h2

def closedB (md : Region.Mode) (ops : Array Oper) (listed : Array Bool) : Bool :=
  (List.range ops.size).all fun j => match ops[j]? with
    | none => true
    | some oj => !listed.getD j false || oj.after.all fun e => !Region.binds md e || listed.getD e.on false
theorem closed_of {listed : Array Bool} (h : closedB md ops listed = true) : Closed md ops listed := by
  intro j oj hoj hl e he hb
  simp only [closedB, List.all_eq_true, List.mem_range] at h
  have h1 := h j (Array.getElem?_eq_some_iff.1 hoj).1
  simp only [hoj, hl, Bool.not_true, Bool.false_or] at h1
  have h2 := Array.all_eq_true'.1 h1 e he
  simpa [hb] using h2
def doneB (listed : Array Bool) (q : Nat) : Bool := (List.range q).all fun i => listed.getD i true
theorem done_of {listed : Array Bool} {q : Nat} (h : doneB listed q = true) : ∀ i, i < q → listed.getD i true = true := by
  simpa [doneB] using h

/-- A PHASE: the operations from q up to q + n, by one walk in the order of the text. -/
theorem any_phase {a : Act} {w : World} {l : List Oper} {listed : Array Bool} (S : World → Prop) (q n m : Nat) (hs : Region.noSelect l.toArray = true) (hk : l.length = q + n + m)
    (hG : gateB2 .any l.toArray (q + n) = true) (hc : closedB .any l.toArray listed = true) (hd : doneB listed q = true) (hB : preLex .any l.toArray n q listed = true) (hS : S w)
    (h : Nonempty (HeldW S) → wpQuiet P l.toArray (fun w' => ∃ x : HeldW S, w' = x.w) (fun a' => ∀ w', (∃ x : HeldW S, w' = x.w) → wpAny P .any l.toArray Q m (marks n q listed) a' w') ((l.drop q).take n) a) : wpAny P .any l.toArray Q (n + m) listed a w := by
  have hl : ((l.drop q).take n).length = n := by rw [List.length_take, List.length_drop]; omega
  have hph := ph_lex2 (P := P) (C := fun w' => ∃ x : HeldW S, w' = x.w) (Q := Q) (m := m) (gate_of2 hG) hs ((l.drop q).take n) q listed a
    (fun j hj => by rw [hl] at hj; simp [hj]) (by omega) (closed_of hc) (done_of hd) (by rw [hl]; exact hB) (by rw [hl]; exact h ⟨⟨_, hS⟩⟩)
  rw [hl] at hph
  exact wpAny_of_ph n _ a _ (⟨⟨_, hS⟩, rfl⟩ : ∃ x : HeldW S, w = x.w) hph

/-- The region's beginning. -/
theorem region_begins {id : Nat} {a : Act} {w : World} {l : List Oper} (n : Nat) (hm : P.follows .mixedOrders = true) (hn : l.length = n)
    (h : wpAny P .any l.toArray Q n (Array.replicate n false) a w.drew) : (Code.region id l.toArray true).wp P Q a w := by
  refine wp_region_any hm ?_
  subst hn
  simpa using h

/-- What an operation does: a call that answers vc and keeps what is there; one that makes a block; one that reads it, or reads nothing. -/
def DoesC (P : Program) (ops : Array Oper) (Q : Exit → Act → World → Prop) (S : World → Prop) (c dc : Nat) (vc : Value) (a : Act) : Prop :=
  ∀ K w, S w → (∀ w', Below w.heap.size w w' → K (a.put (some dc) vc) w') → wpOp P ops Q c K a w
def DoesM (P : Program) (ops : Array Oper) (Q : Exit → Act → World → Prop) (m dm : Nat) (mk : Nat → Value) (o : Obj) (a : Act) : Prop :=
  ∀ K w, K (a.put (some dm) (mk w.heap.size)) (w.alloc o) → wpOp P ops Q m K a w
def DoesV (P : Program) (ops : Array Oper) (Q : Exit → Act → World → Prop) (v dv : Nat) (z : Value) (o : Obj) (B : Nat) (a : Act) : Prop :=
  ∀ K w, w.heap[B]? = some o → K (a.put (some dv) z) w → wpOp P ops Q v K a w

section
variable {S : World → Prop} {c m v x dc dm dv dx : Nat} {vc z y : Value} {mk : Nat → Value} {o : Obj} {n : Nat} {listed : Array Bool} {a : Act} {w : World}
theorem one_ready {i : Nat} {listed : Array Bool} {a : Act} {w : World} (h1 : Region.ready md ops listed = [i]) (h : wpOp P ops Q i (wpAny P md ops Q n (listed.setIfInBounds i true)) a w) : wpAny P md ops Q (n + 1) listed a w :=
  wpAny_all h1 (by simp) fun j hj => by
    obtain rfl : j = i := by simpa using hj
    exact h
theorem two_ready {i k : Nat} {listed : Array Bool} {a : Act} {w : World} (h1 : Region.ready md ops listed = [i, k]) (h : wpOp P ops Q i (wpAny P md ops Q n (listed.setIfInBounds i true)) a w) (h' : wpOp P ops Q k (wpAny P md ops Q n (listed.setIfInBounds k true)) a w) : wpAny P md ops Q (n + 1) listed a w :=
  wpAny_all h1 (by simp) fun j hj => by
    rcases List.mem_cons.1 hj with rfl | hj
    · exact h
    · obtain rfl : j = k := by simpa using hj
      exact h'
theorem put_swap {a : Act} {x y : Nat} (v u : Value) (h : x ≠ y) : (a.put (some x) v).put (some y) u = (a.put (some y) u).put (some x) v :=
  (Act.put_comm a v u (fun d hd he => h (by injection hd with hd; injection he with he; omega))) 
theorem made_at (w : World) (o : Obj) : (w.alloc o).heap[w.heap.size]? = some o := by show (w.heap.push o)[w.heap.size]? = some o; simp
theorem later_at {w w' : World} {B : Nat} {o : Obj} (hb : Below w.heap.size w w') (h : w.heap[B]? = some o) : w'.heap[B]? = some o := by
  rw [hb.block B (Array.getElem?_eq_some_iff.1 h).1]; exact h

/-- Operation i runs first: it leaves v in slot d in every world. -/
theorem any_take (i d : Nat) {oi : Oper} {v : Value} {fuel : Nat} {listed : Array Bool} {a : Act} {w : World} (hi : ops[i]? = some oi) (hd : oi.dst = some d)
    (hs : Region.noSelect ops = true) (hf : Region.free md ops listed i = true) (hr : (Region.ready md ops listed).contains i = true)
    (hQ : ∀ c a d v w, Q (.panic c) (a.put d v) w → Q (.panic c) a w) (hg : Region.wanted oi (yielded ops a.tmps) = true)
    (hy : ∀ w, (execOp a.eval oi).run P w = .ok (.value v) w)
    (h : wpAny P md ops Q fuel (listed.setIfInBounds i true) (a.put (some d) v) w) : wpAny P md ops Q (fuel + 1) listed a w :=
  wpAny_take hi hs hf hr (fun c a w h => hQ c a _ _ w h) (Or.inl ⟨hg, hy⟩) (by rw [hd]; exact h)

/-- A call c beside a block that is made (m) and read (v). -/
theorem two_ways (h1 : Region.ready md ops listed = [c, m]) (h2 : Region.ready md ops (listed.setIfInBounds c true) = [m]) (h3 : Region.ready md ops ((listed.setIfInBounds c true).setIfInBounds m true) = [v])
    (h4 : Region.ready md ops (listed.setIfInBounds m true) = [c, v]) (h6 : Region.ready md ops ((listed.setIfInBounds m true).setIfInBounds v true) = [c])
    (n1 : c ≠ m) (n2 : c ≠ v) (d1 : dc ≠ dm) (d2 : dc ≠ dv) (hS : S w) (keep : ∀ w w', S w → Below w.heap.size w w' → S w')
    (hc1 : DoesC P ops Q S c dc vc a) (hc2 : ∀ B, DoesC P ops Q S c dc vc (a.put (some dm) (mk B))) (hc3 : ∀ B, DoesC P ops Q S c dc vc ((a.put (some dm) (mk B)).put (some dv) z))
    (hm1 : DoesM P ops Q m dm mk o a) (hm2 : DoesM P ops Q m dm mk o (a.put (some dc) vc))
    (hv1 : ∀ B, DoesV P ops Q v dv z o B ((a.put (some dc) vc).put (some dm) (mk B))) (hv2 : ∀ B, DoesV P ops Q v dv z o B (a.put (some dm) (mk B)))
    (rest : ∀ B w', S w' → wpAny P md ops Q n (((listed.setIfInBounds c true).setIfInBounds m true).setIfInBounds v true) (((a.put (some dc) vc).put (some dm) (mk B)).put (some dv) z) w') :
    wpAny P md ops Q (n + 1 + 1 + 1) listed a w := by
  have ha : ∀ w : World, Below w.heap.size w (w.alloc o) := fun w => (Below.refl _ _).alloc (Nat.le_refl _) _
  refine two_ready h1 (hc1 _ _ hS fun w1 hb1 => one_ready h2 (hm2 _ _ (one_ready h3 (hv1 _ _ _ (made_at _ _) (rest _ _ (keep _ _ (keep _ _ hS hb1) (ha _))))))) (hm1 _ _ (two_ready h4 (hc2 _ _ _ (keep _ _ hS (ha _)) fun w1 hb1 => ?_) (hv2 _ _ _ (made_at _ _) ?_)))
  · rw [put_swap _ _ (Ne.symm d1), Array.setIfInBounds_comm _ _ (Ne.symm n1)]
    exact one_ready h3 (hv1 _ _ _ (later_at hb1 (made_at _ _)) (rest _ _ (keep _ _ (keep _ _ hS (ha _)) hb1)))
  · refine one_ready h6 (hc3 _ _ _ (keep _ _ hS (ha _)) fun w1 hb1 => ?_)
    rw [put_swap _ _ (Ne.symm d2), put_swap _ _ (Ne.symm d1), Array.setIfInBounds_comm _ _ (Ne.symm n2), Array.setIfInBounds_comm _ _ (Ne.symm n1)]
    exact rest _ _ (keep _ _ (keep _ _ hS (ha _)) hb1)

/-- The same, and one operation more (x) that waits for v alone. -/
theorem three_ways (h1 : Region.ready md ops listed = [c, m]) (h2 : Region.ready md ops (listed.setIfInBounds c true) = [m]) (h3 : Region.ready md ops ((listed.setIfInBounds c true).setIfInBounds m true) = [v])
    (h4 : Region.ready md ops (listed.setIfInBounds m true) = [c, v]) (h6 : Region.ready md ops ((listed.setIfInBounds m true).setIfInBounds v true) = [c, x])
    (h7 : Region.ready md ops (((listed.setIfInBounds c true).setIfInBounds m true).setIfInBounds v true) = [x]) (h8 : Region.ready md ops (((listed.setIfInBounds m true).setIfInBounds v true).setIfInBounds x true) = [c])
    (n1 : c ≠ m) (n2 : c ≠ v) (n3 : c ≠ x) (d1 : dc ≠ dm) (d2 : dc ≠ dv) (d3 : dc ≠ dx) (hS : S w) (keep : ∀ w w', S w → Below w.heap.size w w' → S w')
    (hc1 : DoesC P ops Q S c dc vc a) (hc2 : ∀ B, DoesC P ops Q S c dc vc (a.put (some dm) (mk B))) (hc3 : ∀ B, DoesC P ops Q S c dc vc ((a.put (some dm) (mk B)).put (some dv) z)) (hc4 : ∀ B, DoesC P ops Q S c dc vc (((a.put (some dm) (mk B)).put (some dv) z).put (some dx) y))
    (hm1 : DoesM P ops Q m dm mk o a) (hm2 : DoesM P ops Q m dm mk o (a.put (some dc) vc))
    (hv1 : ∀ B, DoesV P ops Q v dv z o B ((a.put (some dc) vc).put (some dm) (mk B))) (hv2 : ∀ B, DoesV P ops Q v dv z o B (a.put (some dm) (mk B)))
    (hx1 : ∀ B, DoesV P ops Q x dx y o B (((a.put (some dc) vc).put (some dm) (mk B)).put (some dv) z)) (hx2 : ∀ B, DoesV P ops Q x dx y o B ((a.put (some dm) (mk B)).put (some dv) z))
    (rest : ∀ B w', S w' → wpAny P md ops Q n ((((listed.setIfInBounds c true).setIfInBounds m true).setIfInBounds v true).setIfInBounds x true) ((((a.put (some dc) vc).put (some dm) (mk B)).put (some dv) z).put (some dx) y) w') :
    wpAny P md ops Q (n + 1 + 1 + 1 + 1) listed a w := by
  have ha : ∀ w : World, Below w.heap.size w (w.alloc o) := fun w => (Below.refl _ _).alloc (Nat.le_refl _) _
  refine two_ready h1 (hc1 _ _ hS fun w1 hb1 => one_ready h2 (hm2 _ _ (one_ready h3 (hv1 _ _ _ (made_at _ _) (one_ready h7 (hx1 _ _ _ (made_at _ _) (rest _ _ (keep _ _ (keep _ _ hS hb1) (ha _))))))))) (hm1 _ _ (two_ready h4 (hc2 _ _ _ (keep _ _ hS (ha _)) fun w1 hb1 => ?_) (hv2 _ _ _ (made_at _ _) ?_)))
  · rw [put_swap _ _ (Ne.symm d1), Array.setIfInBounds_comm _ _ (Ne.symm n1)]
    have hm := later_at hb1 (made_at _ _)
    exact one_ready h3 (hv1 _ _ _ hm (one_ready h7 (hx1 _ _ _ hm (rest _ _ (keep _ _ (keep _ _ hS (ha _)) hb1)))))
  · refine two_ready h6 (hc3 _ _ _ (keep _ _ hS (ha _)) fun w1 hb1 => ?_) (hx2 _ _ _ (made_at _ _) (one_ready h8 (hc4 _ _ _ (keep _ _ hS (ha _)) fun w1 hb1 => ?_)))
    · rw [put_swap _ _ (Ne.symm d2), put_swap _ _ (Ne.symm d1), Array.setIfInBounds_comm _ _ (Ne.symm n2), Array.setIfInBounds_comm _ _ (Ne.symm n1)]
      exact one_ready h7 (hx1 _ _ _ (later_at hb1 (made_at _ _)) (rest _ _ (keep _ _ (keep _ _ hS (ha _)) hb1)))
    · rw [put_swap _ _ (Ne.symm d3), put_swap _ _ (Ne.symm d2), put_swap _ _ (Ne.symm d1), Array.setIfInBounds_comm _ _ (Ne.symm n3), Array.setIfInBounds_comm _ _ (Ne.symm n2), Array.setIfInBounds_comm _ _ (Ne.symm n1)]
      exact rest _ _ (keep _ _ (keep _ _ hS (ha _)) hb1)
end
end
end Go.Proofs.YtfjaibaidpbppaaGreatDoor
