/-
  A region that draws its order, whose operations read, or call what keeps a condition S on the world; but for one that makes a block of memory, and one that reads it: these two may stand anywhere among the others. One walk in the order of the text serves every order, in which the first one hands on a number, and the second one a value. No program is named here.
-/
import Derived.Test.YtbdgmddlghhkjaaKept
namespace Go.Proofs.Ytbdgmddlghhkjaa
open Go.RowKit

def withOp (o : Oper) (p : Op) : Oper := { o with op := p }
/-- The region with the two replaced. -/
def floL (l : List Oper) (m v : Nat) (om ov : Oper) (src : Tmp) (z : Value) : List Oper := (l.set m (withOp om (.move (.tmp src)))).set v (withOp ov (.move (.const z)))
/-- Each operation is plain, has a slot of its own, and nobody but the second one of the two looks at the first one's. -/
def floB (l : List Oper) (N v : Nat) (dm : Tmp) : Bool := (List.range l.length).all fun j => match l[j]? with
  | none => false
  | some o => o.guard.isNone && (match o.dst with
    | some d => decide (d < N) && (List.range l.length).all (fun i => i == j || (match l[i]? with
      | some x => x.dst != some d
      | none => true))
    | none => false) && (j == v || !(o.looksAt l.toArray).contains dm)

/-- The class of worlds: S holds, and, if it is asked, a block is there. -/
def Cb (S : World → Prop) (b : Option (Nat × Obj)) (W : World) : Prop := S W ∧ ∀ x, b = some x → W.heap[x.1]? = some x.2

structure Flo (P : Program) (S : World → Prop) (l : List Oper) (md : Region.Mode) (Q : Exit → Act → World → Prop) (N m v : Nat) (om ov : Oper) (dm dv src : Tmp) (z : Value) (n0 : Value) (mk : Nat → Value) (o : Obj) : Prop where
  hm : l[m]? = some om
  hv : l[v]? = some ov
  mv : m ≠ v
  dm_ : om.dst = some dm
  dv_ : ov.dst = some dv
  ok : floB l N v dm = true
  sel : Region.noSelect l.toArray = true
  wait : ∃ e ∈ ov.after, Region.binds md e = true ∧ e.on = m
  mdo : ∀ K a W, S W → a.eval (.tmp src) = n0 → K (a.put (some dm) (mk W.heap.size)) (W.alloc o) → wpOp P l.toArray Q m K a W
  keep : ∀ W, S W → S (W.alloc o)
  vdo : ∀ K a W B, W.heap[B]? = some o → a.eval (.tmp dm) = mk B → K (a.put (some dv) z) W → wpOp P l.toArray Q v K a W

section
variable {P : Program} {S : World → Prop} {l : List Oper} {md : Region.Mode} {Q : Exit → Act → World → Prop} {N m v : Nat} {om ov : Oper} {dm dv src : Tmp} {z n0 : Value} {mk : Nat → Value} {o : Obj}

theorem floL_len : (floL l m v om ov src z).length = l.length := by simp [floL]
theorem floL_at (F : Flo P S l md Q N m v om ov dm dv src z n0 mk o) (j : Nat) :
    (floL l m v om ov src z)[j]? = if j = v then some (withOp ov (.move (.const z))) else if j = m then some (withOp om (.move (.tmp src))) else l[j]? := by
  have hm := (List.getElem?_eq_some_iff.1 F.hm).1
  have hv := (List.getElem?_eq_some_iff.1 F.hv).1
  unfold floL
  by_cases h1 : j = v
  · subst h1
    rw [if_pos rfl, List.getElem?_set_self (by simpa using hv)]
  · rw [if_neg h1, List.getElem?_set_ne (Ne.symm h1)]
    by_cases h2 : j = m
    · subst h2
      rw [if_pos rfl, List.getElem?_set_self hm]
    · rw [if_neg h2, List.getElem?_set_ne (Ne.symm h2)]
/-- The operation that was there, but for what it does. -/
theorem floL_old (F : Flo P S l md Q N m v om ov dm dv src z n0 mk o) {j : Nat} {x : Oper} (h : (floL l m v om ov src z)[j]? = some x) : ∃ y, l[j]? = some y ∧ x.dst = y.dst ∧ x.after = y.after ∧ x.guard = y.guard := by
  rw [floL_at F] at h
  by_cases h1 : j = v
  · rw [if_pos h1] at h
    obtain rfl := Option.some.inj h
    exact ⟨ov, by rw [h1]; exact F.hv, rfl, rfl, rfl⟩
  · rw [if_neg h1] at h
    by_cases h2 : j = m
    · rw [if_pos h2] at h
      obtain rfl := Option.some.inj h
      exact ⟨om, by rw [h2]; exact F.hm, rfl, rfl, rfl⟩
    · rw [if_neg h2] at h
      exact ⟨x, h, rfl, rfl, rfl⟩
theorem floL_new (F : Flo P S l md Q N m v om ov dm dv src z n0 mk o) {j : Nat} {y : Oper} (h : l[j]? = some y) : ∃ x, (floL l m v om ov src z)[j]? = some x ∧ x.after = y.after := by
  rw [floL_at F]
  by_cases h1 : j = v
  · rw [if_pos h1]
    rw [h1, F.hv] at h
    obtain rfl := Option.some.inj h
    exact ⟨_, rfl, rfl⟩
  · rw [if_neg h1]
    by_cases h2 : j = m
    · rw [if_pos h2]
      rw [h2, F.hm] at h
      obtain rfl := Option.some.inj h
      exact ⟨_, rfl, rfl⟩
    · rw [if_neg h2]
      exact ⟨y, h, rfl⟩
theorem flo_ready (F : Flo P S l md Q N m v om ov dm dv src z n0 mk o) {j : Nat} {listed : Array Bool} : j ∈ Region.ready md (floL l m v om ov src z).toArray listed ↔ j ∈ Region.ready md l.toArray listed := by
  rw [mem_ready, mem_ready]
  constructor
  · rintro ⟨h0, x, hx, hall⟩
    obtain ⟨y, hy, _, ha, _⟩ := floL_old F (by simpa using hx)
    exact ⟨h0, y, by simpa using hy, by rw [← ha]; exact hall⟩
  · rintro ⟨h0, y, hy, hall⟩
    obtain ⟨x, hx, ha⟩ := floL_new F (by simpa using hy)
    exact ⟨h0, x, by simpa using hx, by rw [ha]; exact hall⟩
theorem flo_plain (F : Flo P S l md Q N m v om ov dm dv src z n0 mk o) {j : Nat} {y : Oper} (h : l[j]? = some y) : y.guard = none ∧ (∃ d, y.dst = some d ∧ d < N) ∧ (j ≠ v → dm ∉ y.looksAt l.toArray) ∧ ∀ i x, l[i]? = some x → i ≠ j → x.dst ≠ y.dst := by
  have hj := (List.getElem?_eq_some_iff.1 h).1
  have hok := F.ok
  simp only [floB, List.all_eq_true, List.mem_range] at hok
  have h1 := hok j hj
  rw [h] at h1
  simp only [Bool.and_eq_true, Bool.or_eq_true, beq_iff_eq, Option.isNone_iff_eq_none] at h1
  obtain ⟨⟨hg, hd⟩, hl⟩ := h1
  cases hdst : y.dst with
  | none => rw [hdst] at hd; cases hd
  | some d =>
    rw [hdst] at hd
    simp only [Bool.and_eq_true, decide_eq_true_eq, List.all_eq_true, List.mem_range, Bool.or_eq_true, beq_iff_eq] at hd
    refine ⟨hg, ⟨d, rfl, hd.1⟩, fun hne => ?_, fun i x hx hne e => ?_⟩
    · rcases hl with hl | hl
      · exact absurd hl hne
      · simpa using hl
    · have h2 := hd.2 i (List.getElem?_eq_some_iff.1 hx).1
      rw [hx] at h2
      rcases h2 with h2 | h2
      · exact hne h2
      · simp [e] at h2

theorem put_size {a : Act} {d : Option Tmp} {u : Value} : (a.put d u).tmps.size = a.tmps.size := by cases d <;> simp [Act.put]
theorem put_same {a : Act} {d : Tmp} {u : Value} (h : d < a.tmps.size) : (a.put (some d) u).eval (.tmp d) = u := by simp [Act.put, Act.eval, h]
theorem put_put {a : Act} {d : Tmp} {u x : Value} : (a.put (some d) u).put (some d) x = a.put (some d) x := by simp [Act.put]

/-- A slot that is written stays as it is. -/
theorem slot_stays (F : Flo P S l md Q N m v om ov dm dv src z n0 mk o) {C : World → Prop} {aF : Act} {d : Tmp} : ∀ (f : Nat) (listed : Array Bool) (a : Act),
    (∀ j x, l[j]? = some x → listed.getD j true = false → x.dst ≠ some d) → wpAnyQ P md (floL l m v om ov src z).toArray C (fun a' => a' = aF) f listed a → aF.eval (.tmp d) = a.eval (.tmp d)
  | 0, _, a, _, h => by rw [h.2]
  | f + 1, listed, a, hd, h => by
    cases hr : Region.ready md (floL l m v om ov src z).toArray listed with
    | nil => rw [h.1 hr]
    | cons i r =>
      have hi : i ∈ Region.ready md (floL l m v om ov src z).toArray listed := by rw [hr]; exact List.mem_cons_self
      obtain ⟨hun, x, hx, _⟩ := mem_ready.1 hi
      obtain ⟨u, _, hK⟩ := yieldsIn_of_qOp hx (h.2 i hi)
      obtain ⟨y, hy, hdd, _, _⟩ := floL_old F (by simpa using hx)
      have hne : y.dst ≠ some d := hd i y hy hun
      have ih := slot_stays F (d := d) f (listed.setIfInBounds i true) (a.put x.dst u) (fun j x' hx' hun' => ?_) hK
      · rw [ih]
        exact Act.eval_put fun e he hxe => hne (by rw [← hdd, he]; injection hxe with hxe; rw [hxe])
      · refine hd j x' hx' ?_
        by_cases e : i = j
        · subst e
          rcases Nat.lt_or_ge i listed.size with hlt | hge
          · simp [hlt] at hun'
          · simp [hge] at hun'
        · rw [getD_set_ne true e] at hun'
          exact hun'

theorem both_getD {listed : Array Bool} {i : Nat} (h1 : listed.getD i true = false) : listed.getD i false = false := by
  rcases Nat.lt_or_ge i listed.size with h | h
  · simpa [h] using h1
  · simp [h] at h1

/-- THE SIMULATION. -/
theorem flo_sim (F : Flo P S l md Q N m v om ov dm dv src z n0 mk o) {aF : Act} (hn0 : aF.eval (.tmp dm) = n0) (hz : aF.eval (.tmp dv) = z)
    (hfin : ∀ W, S W → Q .normal aF W ∧ ∀ x, Q .normal (aF.put (some dm) x) W) :
    ∀ (f : Nat) (listed : Array Bool) (a : Act) (W : World), (∀ b, (∃ W', Cb S b W') → wpAnyQ P md (floL l m v om ov src z).toArray (Cb S b) (fun a' => a' = aF) f listed a) → a.tmps.size = N → S W → listed.size = l.length →
      (listed.getD v false = true → listed.getD m false = true) →
      (listed.getD m false = false → wpAny P md l.toArray Q f listed a W) ∧
      (listed.getD m false = true → listed.getD v false = false → ∀ B, W.heap[B]? = some o → wpAny P md l.toArray Q f listed (a.put (some dm) (mk B)) W) ∧
      (listed.getD v false = true → ∀ x, wpAny P md l.toArray Q f listed (a.put (some dm) x) W)
  | 0, listed, a, W, H, _, hS, _, _ => by
    obtain ⟨hr, ha⟩ := H none ⟨W, hS, fun x e => by cases e⟩
    have hr2 : Region.ready md l.toArray listed = [] := by
      cases h : Region.ready md l.toArray listed with
      | nil => rfl
      | cons i r =>
        have : i ∈ Region.ready md (floL l m v om ov src z).toArray listed := (flo_ready F).2 (by rw [h]; exact List.mem_cons_self)
        rw [hr] at this
        cases this
    rw [ha]
    exact ⟨fun _ => ⟨hr2, (hfin W hS).1⟩, fun _ _ B _ => ⟨hr2, (hfin W hS).2 _⟩, fun _ x => ⟨hr2, (hfin W hS).2 x⟩⟩
  | f + 1, listed, a, W, H, hN, hS, hsz, hvm => by
    have hrn : Region.ready md l.toArray listed = [] → a = aF := fun h => (H none ⟨W, hS, fun x e => by cases e⟩).1 (by
      cases h' : Region.ready md (floL l m v om ov src z).toArray listed with
      | nil => rfl
      | cons i r =>
        have : i ∈ Region.ready md l.toArray listed := (flo_ready F).1 (by rw [h']; exact List.mem_cons_self)
        rw [h] at this
        cases this)
    have mlt : m < listed.size := by rw [hsz]; exact (List.getElem?_eq_some_iff.1 F.hm).1
    have vlt : v < listed.size := by rw [hsz]; exact (List.getElem?_eq_some_iff.1 F.hv).1
    have setm : ∀ i, (listed.setIfInBounds i true).getD m false = (if i = m then true else listed.getD m false) := fun i => by
      by_cases e : i = m
      · subst e; simp [mlt]
      · rw [if_neg e, getD_set_ne false e]
    have setv : ∀ i, (listed.setIfInBounds i true).getD v false = (if i = v then true else listed.getD v false) := fun i => by
      by_cases e : i = v
      · subst e; simp [vlt]
      · rw [if_neg e, getD_set_ne false e]
    -- each operation's value is one, whatever is asked of the world
    have one : ∀ i ∈ Region.ready md l.toArray listed, ∀ x d, (floL l m v om ov src z)[i]? = some x → x.dst = some d → d < N → ∀ b, (∃ W', Cb S b W') → YieldsIn P (floL l m v om ov src z).toArray (Cb S b) x (aF.eval (.tmp d)) a ∧ wpAnyQ P md (floL l m v om ov src z).toArray (Cb S b) (fun a' => a' = aF) f (listed.setIfInBounds i true) (a.put (some d) (aF.eval (.tmp d))) := by
      intro i hi x d hx hd hdN b hbb
      have hi' := (flo_ready F).2 hi
      obtain ⟨u, hy, hK⟩ := yieldsIn_of_qOp (by simpa using hx) ((H b hbb).2 i hi')
      rw [hd] at hK
      have e := slot_stays F f _ _ (d := d) (fun j x' hx' hun' e' => ?_) hK
      · rw [put_same (by rw [hN]; exact hdN)] at e
        rw [e]
        exact ⟨hy, hK⟩
      · obtain ⟨y, hy', hdd, _⟩ := floL_old F hx
        by_cases e : j = i
        · subst e
          have := (mem_ready.1 hi).1
          rcases Nat.lt_or_ge j listed.size with hlt | hge
          · simp [hlt] at hun'
          · simp [hge] at this
        · exact (flo_plain F hy').2.2.2 j x' hx' e (by rw [e', ← hdd, hd])
    -- an operation that is neither of the two
    have oth : ∀ i ∈ Region.ready md l.toArray listed, i ≠ m → i ≠ v → ∀ (aa : Act), (∃ x, aa = a.put (some dm) x) ∨ aa = a → ∀ b, Cb S b W → ∀ K : Act → World → Prop,
        (∀ d u w', (∀ b, (∃ W', Cb S b W') → wpAnyQ P md (floL l m v om ov src z).toArray (Cb S b) (fun a' => a' = aF) f (listed.setIfInBounds i true) (a.put (some d) u)) → Cb S b w' → d ≠ dm → K (aa.put (some d) u) w') → wpOp P l.toArray Q i K aa W := by
      intro i hi hne1 hne2 aa haa b hb K hK
      obtain ⟨_, y, hy, _⟩ := mem_ready.1 hi
      have hyl : l[i]? = some y := by simpa using hy
      obtain ⟨hg, ⟨d, hd, hdN⟩, hbl, hun⟩ := flo_plain F hyl
      have hyF : (floL l m v om ov src z)[i]? = some y := by rw [floL_at F, if_neg hne2, if_neg hne1]; exact hyl
      have hdm : d ≠ dm := fun e => hun m om F.hm (Ne.symm hne1) (by rw [F.dm_, hd, e])
      obtain ⟨hyi, _⟩ := one i hi y d hyF hd hdN b ⟨W, hb⟩
      have hq : qOp P l.toArray (Cb S b) i (fun a' => a' = aa.put (some d) (aF.eval (.tmp d))) aa := by
        unfold qOp
        rw [hy]
        simp only
        have hw : Region.wanted y (yielded l.toArray aa.tmps) = true := by simp [Region.wanted, hg]
        rw [if_pos hw]
        rcases hyi with ⟨_, hyv⟩ | ⟨hwf, _⟩
        · refine ⟨aF.eval (.tmp d), fun w hw' => ?_, by rw [hd]⟩
          have h1 := hyv w hw'
          unfold Oper.quietAt at h1 ⊢
          rcases haa with ⟨x, rfl⟩ | rfl
          · rw [execOp_put (ops := l.toArray) y (Region.noSelect_spec F.sel i y · · hy) a (some dm) x (fun d' e => by injection e with e; rw [← e]; exact hbl hne2)]
            exact h1
          · exact h1
        · simp [Region.wanted, hg] at hwf
      refine wpOp_of_qOp hb (fun a' w' hw' ha' => ?_) hq
      rw [ha']
      exact hK d _ w' (fun b' hb' => (one i hi y d hyF hd hdN b' hb').2) hw' hdm
    have omx : (floL l m v om ov src z)[m]? = some (withOp om (.move (.tmp src))) := by rw [floL_at F, if_neg F.mv, if_pos rfl]
    have ovx : (floL l m v om ov src z)[v]? = some (withOp ov (.move (.const z))) := by rw [floL_at F, if_pos rfl]
    have hcb : Cb S none W := ⟨hS, fun x e => by cases e⟩
    have hdmN : dm < N := by
      obtain ⟨_, ⟨d, hd, hdN⟩, _, _⟩ := flo_plain F F.hm
      rw [F.dm_] at hd
      rw [Option.some.inj hd]
      exact hdN
    have hdvN : dv < N := by
      obtain ⟨_, ⟨d, hd, hdN⟩, _, _⟩ := flo_plain F F.hv
      rw [F.dv_] at hd
      rw [Option.some.inj hd]
      exact hdN
    have hdd : dm ≠ dv := fun e => (flo_plain F F.hv).2.2.2 m om F.hm F.mv (by rw [F.dm_, F.dv_, e])
    refine ⟨fun hm0 => ⟨fun h => ?_, fun i hi => ?_⟩, fun hm1 hv0 B hB => ⟨fun h => ?_, fun i hi => ?_⟩, fun hv1 x => ⟨fun h => ?_, fun i hi => ?_⟩⟩
    · rw [hrn h]; exact (hfin W hS).1
    · by_cases e1 : i = m
      · rw [e1] at hi ⊢
        obtain ⟨hy, hK⟩ := one m hi _ dm omx F.dm_ hdmN none ⟨W, hcb⟩
        have hsrc : a.eval (.tmp src) = n0 := by
          rcases hy with ⟨_, hy⟩ | ⟨hwf, _⟩
          · have h1 := hy W hcb
            unfold Oper.quietAt at h1
            simp [withOp, execOp, Oper.quietUpon] at h1
            rw [h1, hn0]
          · obtain ⟨hg, _⟩ := flo_plain F F.hm
            simp [Region.wanted, withOp, hg] at hwf
        refine F.mdo _ a W hS hsrc ?_
        have ih := (flo_sim F hn0 hz hfin f (listed.setIfInBounds m true) (a.put (some dm) (aF.eval (.tmp dm))) (W.alloc o) (fun b hb => (one m hi _ dm omx F.dm_ hdmN b hb).2) (by rw [put_size]; exact hN) (F.keep W hS) (by simpa using hsz) (fun _ => by rw [setm, if_pos rfl])).2.1 (by rw [setm, if_pos rfl]) (by
            rw [setv, if_neg F.mv]
            cases h : listed.getD v false with
            | false => rfl
            | true => rw [hvm h] at hm0; cases hm0) W.heap.size (by show (W.heap.push o)[W.heap.size]? = some o; simp)
        rw [put_put] at ih
        exact ih
      · by_cases e2 : i = v
        · rw [e2] at hi ⊢
          obtain ⟨_, y, hy, hall⟩ := mem_ready.1 hi
          have hyv : y = ov := by
            have : l[v]? = some y := by simpa using hy
            rw [F.hv] at this
            exact (Option.some.inj this).symm
          subst hyv
          obtain ⟨e, he, hb, hon⟩ := F.wait
          have := hall e he hb
          rw [hon, hm0] at this
          cases this
        · refine oth i hi e1 e2 a (.inr rfl) none hcb _ fun d u w' hq hw' hne => ?_
          exact (flo_sim F hn0 hz hfin f (listed.setIfInBounds i true) (a.put (some d) u) w' hq (by rw [put_size]; exact hN) hw'.1 (by simpa using hsz) (by rw [setm, setv, if_neg e1, if_neg e2]; exact hvm)).1 (by rw [setm, if_neg e1]; exact hm0)
    · rw [hrn h]; exact (hfin W hS).2 _
    · by_cases e1 : i = m
      · rw [e1] at hi ⊢
        have := both_getD (mem_ready.1 hi).1
        rw [hm1] at this
        cases this
      · by_cases e2 : i = v
        · rw [e2] at hi ⊢
          obtain ⟨hy, hK⟩ := one v hi _ dv ovx F.dv_ hdvN none ⟨W, hcb⟩
          refine F.vdo _ _ W B hB (put_same (by rw [hN]; exact hdmN)) ?_
          have ih := (flo_sim F hn0 hz hfin f (listed.setIfInBounds v true) (a.put (some dv) (aF.eval (.tmp dv))) W (fun b hb => (one v hi _ dv ovx F.dv_ hdvN b hb).2) (by rw [put_size]; exact hN) hS (by simpa using hsz) (fun _ => by rw [setm, if_neg (fun h => F.mv h.symm)]; exact hm1)).2.2 (by rw [setv, if_pos rfl]) (mk B)
          rw [hz, Act.put_comm a _ _ (fun d' e => by injection e with e; rw [← e]; exact fun h => hdd (by injection h))] at ih
          exact ih
        · refine oth i hi e1 e2 _ (.inl ⟨mk B, rfl⟩) (some (B, o)) ⟨hS, fun x e => by injection e with e; rw [← e]; exact hB⟩ _ fun d u w' hq hw' hne => ?_
          have ih := (flo_sim F hn0 hz hfin f (listed.setIfInBounds i true) (a.put (some d) u) w' hq (by rw [put_size]; exact hN) hw'.1 (by simpa using hsz) (by rw [setm, setv, if_neg e1, if_neg e2]; exact hvm)).2.1 (by rw [setm, if_neg e1]; exact hm1) (by rw [setv, if_neg e2]; exact hv0) B (hw'.2 _ rfl)
          rw [Act.put_comm a _ _ (fun d' e => by injection e with e; rw [← e]; exact fun h => hne (by injection h with h; exact h.symm))] at ih
          exact ih
    · rw [hrn h]; exact (hfin W hS).2 _
    · by_cases e1 : i = m
      · rw [e1] at hi ⊢
        have := both_getD (mem_ready.1 hi).1
        rw [hvm hv1] at this
        cases this
      · by_cases e2 : i = v
        · rw [e2] at hi ⊢
          have := both_getD (mem_ready.1 hi).1
          rw [hv1] at this
          cases this
        · refine oth i hi e1 e2 _ (.inl ⟨x, rfl⟩) none hcb _ fun d u w' hq hw' hne => ?_
          have ih := (flo_sim F hn0 hz hfin f (listed.setIfInBounds i true) (a.put (some d) u) w' hq (by rw [put_size]; exact hN) hw'.1 (by simpa using hsz) (by rw [setm, setv, if_neg e1, if_neg e2]; exact hvm)).2.2 (by rw [setv, if_neg e2]; exact hv1) x
          rw [Act.put_comm a _ _ (fun d' e => by injection e with e; rw [← e]; exact fun h => hne (by injection h with h; exact h.symm))] at ih
          exact ih

/-- ONE WALK SERVES EVERY ORDER. -/
theorem wp_region_float {id : Nat} {a : Act} {w : World} (F : Flo P S l .any Q N m v om ov dm dv src z n0 mk o) (hm : P.follows .mixedOrders = true) (hB : Region.lexB .any (floL l m v om ov src z).toArray = true) (hS : S w.drew) (hN : a.tmps.size = N)
    (h : ∃ aF : Act, (∀ b, Nonempty (HeldW (Cb S b)) → wpQuiet P (floL l m v om ov src z).toArray (fun w' => ∃ x : HeldW (Cb S b), w' = x.w) (fun a' => a' = aF) (floL l m v om ov src z) a) ∧ aF.eval (.tmp dm) = n0 ∧ aF.eval (.tmp dv) = z ∧ ∀ W, S W → Q .normal aF W ∧ ∀ x, Q .normal (aF.put (some dm) x) W) :
    (Code.region id l.toArray true).wp P Q a w := by
  obtain ⟨aF, HQ, hn0, hz, hfin⟩ := h
  refine wp_region_any hm ?_
  have hcl : ∀ b, (fun w' => ∃ x : HeldW (Cb S b), w' = x.w) = Cb S b := fun b => by
    funext w'
    exact propext ⟨fun ⟨x, e⟩ => e ▸ x.ok, fun h => ⟨⟨w', h⟩, rfl⟩⟩
  simp only [Region.lexB, Bool.and_eq_true] at hB
  have hq : ∀ b, (∃ W', Cb S b W') → wpAnyQ P .any (floL l m v om ov src z).toArray (Cb S b) (fun a' => a' = aF) l.length (Array.replicate l.length false) a := fun b hbb => by
    have h1 := HQ b (hbb.elim fun W' h => ⟨⟨W', h⟩⟩)
    rw [hcl b] at h1
    have h2 := wpAnyQ_lex (C := Cb S b) (md := .any) hB.1 (floL l m v om ov src z) 0 (Array.replicate (floL l m v om ov src z).length false) a (by simp) (by simpa using hB.2) h1
    rw [floL_len] at h2
    exact h2
  have hml := (List.getElem?_eq_some_iff.1 F.hm).1
  have hvl := (List.getElem?_eq_some_iff.1 F.hv).1
  have hs := (flo_sim F hn0 hz hfin l.length (Array.replicate l.length false) a w.drew hq hN hS (by simp) (fun h => by simp [hvl] at h)).1 (by simp [hml])
  simpa using hs

theorem Cb.keep {b : Option (Nat × Obj)} (keep : ∀ v v', S v → Below v.heap.size v v' → S v') : ∀ v v', Cb S b v → Below v.heap.size v v' → Cb S b v' := fun v v' ⟨h1, h2⟩ hb =>
  ⟨keep _ _ h1 hb, fun x e => by have := h2 x e; rw [hb.block _ (Array.getElem?_eq_some_iff.1 this).1]; exact this⟩
theorem mdo_make {t : TypeId} (hm : l[m]? = some om) (hop : om.op = .makeSlice t (.tmp src) (.tmp src)) (hd : om.dst = some dm) (hg : om.guard = none) (hrun : ∀ W, (Instr.makeSlice t n0 n0).run P W = .ok (mk W.heap.size) (W.alloc o)) :
    ∀ (K : Act → World → Prop) (a : Act) (W : World), S W → a.eval (.tmp src) = n0 → K (a.put (some dm) (mk W.heap.size)) (W.alloc o) → wpOp P l.toArray Q m K a W := by
  intro K a W _ hs hK
  unfold wpOp
  rw [show l.toArray[m]? = some om by simpa using hm]
  simp only
  rw [if_pos (by simp [Region.wanted, hg])]
  left
  unfold Oper.wp
  simp [execOp, hop, hs, hrun, Result.andThen]
  rw [← hd] at hK
  exact hK
theorem vdo_conv {s t : TypeId} (hv : l[v]? = some ov) (hop : ov.op = .convert s t (.tmp dm)) (hd : ov.dst = some dv) (hg : ov.guard = none) (hrun : ∀ (W : World) (B : Nat), W.heap[B]? = some o → (convert s t (mk B)).run P W = .ok z W) :
    ∀ (K : Act → World → Prop) (a : Act) (W : World) (B : Nat), W.heap[B]? = some o → a.eval (.tmp dm) = mk B → K (a.put (some dv) z) W → wpOp P l.toArray Q v K a W := by
  intro K a W B hB hs hK
  unfold wpOp
  rw [show l.toArray[v]? = some ov by simpa using hv]
  simp only
  rw [if_pos (by simp [Region.wanted, hg])]
  left
  unfold Oper.wp
  simp [execOp, hop, hs, hrun W B hB, Result.andThen]
  rw [← hd] at hK
  exact hK
end
end Go.Proofs.Ytbdgmddlghhkjaa
