/-
  What the lines told so far, while one more is laid down: its place, its task, its names. No conditions. line: the lines take one more. Conditions: what the library's variables hold, texts up to a million bytes, at most eight lines ahead.
-/
import Derived.Test.YtcfnmjhelhdobaaGreatDoorMdH
import Derived.Test.YtcfnmjhelhdobaaGreatDoorLexN
import Derived.Test.YtcfnmjhelhdobaaGreatDoorMdR
namespace Go.Proofs.YtcfnmjhelhdobaaGreatDoor
open Go.RowKit
open Go.Maps (Keyed IsMap has)

/-- As RdM, with tasks, places and names apart from each other; beside it the result's cell, the line's row, its names, the marks of the call's range. -/
structure LfS (w0 : World) (R P E X M D : Nat) (ts : List LnP) (ns : List ByteArray) (zs : List LnP) (tv av : Value) (vs : List Value) (kind : ByteArray) (x : LnP) (A : Option Addr) (c : Nat) (W : World) : Prop where
  row : W.heap[R]? = some (.cells #[tv, .map (some P), av] 88 (0, 0))
  tasks : W.ownsRow w0.heap.size 47 7 tv ts.length (ts.flatMap tk0)
  places : MapIs W P ns.length ns
  after : W.ownsRow w0.heap.size 82 1 av zs.length vs
  aft : ∀ (i : Nat) (y : LnP), zs[i]? = some y → ∃ A c, vs[i]? = some (.slice A y.after.length c) ∧ WdsM W A y.after
  low : Below w0.heap.size w0 W
  base : w0.heap.size ≤ R ∧ w0.heap.size ≤ P ∧ w0.heap.size ≤ E
  err : W.heap[E]? = some (.cells #[.nilIface] 27 (0, 0))
  line : W.heap[X]? = some (.cells (lmC kind M x (.slice A x.after.length c)) 123 (0, 0))
  names : WdsM W A x.after
  marks : W.heap[D]? = some (.deferred (some []))
section
variable {w0 W W' : World} {R P E X M D : Nat} {ts zs : List LnP} {ns : List ByteArray} {tv av : Value} {vs : List Value} {kind : ByteArray} {x : LnP} {A : Option Addr} {c : Nat}
theorem LfS.later (h : LfS w0 R P E X M D ts ns zs tv av vs kind x A c W) (hb : Below W.heap.size W W') : LfS w0 R P E X M D ts ns zs tv av vs kind x A c W' := by
  have ob : ∀ (b : Nat) (o : Obj), W.heap[b]? = some o → W'.heap[b]? = some o := fun b o ho => later_at hb ho
  refine ⟨ob _ _ h.row, own_agree h.tasks (fun q _ hq => hb.block q hq), h.places.block (fun es cl hp => hb.block P (Array.getElem?_eq_some_iff.1 hp).1), own_agree h.after (fun q _ hq => hb.block q hq), fun i y hy => ?_, h.low.trans (hb.mono h.low.size), h.base, ob _ _ h.err, ob _ _ h.line, h.names.later hb, ob _ _ h.marks⟩
  obtain ⟨A', c', e, hA⟩ := h.aft i y hy
  exact ⟨A', c', e, hA.later hb⟩
/-- The line's place is laid down. -/
theorem LfS.put (h : LfS w0 R P E X M D ts ns zs tv av vs kind x A c W) (hg : W.grownBy W' (some P)) {n : ByteArray} (hm : MapIs W' P (ns ++ [n]).length (ns ++ [n])) : LfS w0 R P E X M D ts (ns ++ [n]) zs tv av vs kind x A c W' := by
  obtain ⟨es, cl, hp⟩ := h.places.isMap
  have ob : ∀ (b : Nat) (o : Obj), W.heap[b]? = some o → (∀ es cl, o ≠ .map es cl) → W'.heap[b]? = some o := fun b o ho hn => (hg.block b (Array.getElem?_eq_some_iff.1 ho).1 (fun e => by
    injection e with e
    rw [e, hp] at ho
    injection ho with ho
    exact hn _ _ ho.symm)).trans ho
  have oc : ∀ (b : Nat) (cs : Array Value) (t : TypeId), W.heap[b]? = some (.cells cs t (0, 0)) → W'.heap[b]? = W.heap[b]? := fun b cs t hb => (ob b _ hb (fun _ _ e => by cases e)).trans hb.symm
  refine ⟨ob _ _ h.row (fun _ _ e => by cases e), own_frame h.tasks (fun q cur _ hq => oc q cur _ hq), hm, own_frame h.after (fun q cur _ hq => oc q cur _ hq), fun i y hy => ?_, h.low.grown hg h.low.size (fun b e => by injection e with e; have := h.base; omega), h.base, ob _ _ h.err (fun _ _ e => by cases e), ob _ _ h.line (fun _ _ e => by cases e), h.names.frame (fun g cur hq => oc g cur _ hq), ob _ _ h.marks (fun _ _ e => by cases e)⟩
  obtain ⟨A', c', e, hA⟩ := h.aft i y hy
  exact ⟨A', c', e, hA.frame (fun g cur hq => oc g cur _ hq)⟩
/-- What a row's growing and a store into the struct leave. -/
theorem grow_set {T : TypeId} {base size n : Nat} {v : Value} {l : List Value} {cs : Array Value} {j : Nat} {u : Value} (ho : W.ownsRow base T size v n l) (hg : W.grownBy W' v.ownBlock) (hR : W.heap[R]? = some (.cells cs 88 (0, 0))) (hT : T ≠ 88) :
    W'.heap[R]? = some (.cells cs 88 (0, 0)) ∧ ∀ (b : Nat) (o : Obj), W.heap[b]? = some o → (∀ c', o ≠ .cells c' T (0, 0)) → (∀ c', o ≠ .cells c' 88 (0, 0)) → (W'.setCell ⟨R, j, none⟩ u).heap[b]? = some o := by
  have go : ∀ (b : Nat) (o : Obj), W.heap[b]? = some o → (∀ c', o ≠ .cells c' T (0, 0)) → W'.heap[b]? = some o := fun b o hb hn => (hg.block b (Array.getElem?_eq_some_iff.1 hb).1 (fun e => by
    obtain ⟨_, cur, h2⟩ := own_tag ho e.symm
    rw [hb] at h2
    injection h2 with h2
    exact hn _ h2)).trans hb
  refine ⟨go R _ hR (fun c' e => by injection e with _ e; exact hT e.symm), fun b o hb h1 h2 => ?_⟩
  refine (Below.heap_setCell W' ⟨R, j, none⟩ u b (by
    show b ≠ R
    rintro rfl
    rw [hR] at hb
    injection hb with hb
    exact h2 _ hb.symm)).trans (go b o hb h1)
/-- Its task is laid down. -/
theorem LfS.task (h : LfS w0 R P E X M D ts ns zs tv av vs kind x A c W) (hg : W.grownBy W' tv.ownBlock) {tv' : Value} {y : LnP} (ho : W'.ownsRow w0.heap.size 47 7 tv' (ts.length + 1) (ts.flatMap tk0 ++ tk0 y)) : LfS w0 R P E X M D (ts ++ [y]) ns zs tv' av vs kind x A c (W'.setCell ⟨R, 0, none⟩ tv') := by
  obtain ⟨hR, ob⟩ := grow_set (j := 0) (u := tv') h.tasks hg h.row (by decide)
  have oc : ∀ (b : Nat) (cs : Array Value) (t : TypeId), t ≠ 47 → t ≠ 88 → W.heap[b]? = some (.cells cs t (0, 0)) → (W'.setCell ⟨R, 0, none⟩ tv').heap[b]? = W.heap[b]? := fun b cs t h1 h2 hb => (ob b _ hb (fun c' e => by injection e with _ e; exact h1 e) (fun c' e => by injection e with _ e; exact h2 e)).trans hb.symm
  refine ⟨(row_set hR).trans rfl, ?_, h.places.block (fun es cl hp => (ob P _ hp (fun _ e => by cases e) (fun _ e => by cases e)).trans hp.symm), own_frame h.after (fun q cur _ hq => oc q cur _ (by decide) (by decide) hq), fun i z hz => ?_, (h.low.grown hg h.low.size (fun b e => (own_tag h.tasks e).1)).setCell (p := ⟨R, 0, none⟩) h.base.1 _, h.base, (oc _ _ _ (by decide) (by decide) h.err).trans h.err, (oc _ _ _ (by decide) (by decide) h.line).trans h.line, h.names.frame (fun g cur hq => oc g cur _ (by decide) (by decide) hq), ob _ _ h.marks (fun _ e => by cases e) (fun _ e => by cases e)⟩
  · rw [List.length_append, List.flatMap_append]
    simp only [List.length_singleton, List.flatMap_singleton]
    exact own_frame ho (fun q cur _ hq => Below.heap_setCell W' ⟨R, 0, none⟩ tv' q (by
      show q ≠ R
      rintro rfl
      rw [hR] at hq
      injection hq with hq
      injection hq with _ h2
      exact absurd h2 (by decide)))
  · obtain ⟨A', c', e, hA⟩ := h.aft i z hz
    exact ⟨A', c', e, hA.frame (fun g cur hq => oc g cur _ (by decide) (by decide) hq)⟩
/-- Its names are laid down. -/
theorem LfS.nms (h : LfS w0 R P E X M D ts ns zs tv av vs kind x A c W) (hvs : vs.length = zs.length) (hg : W.grownBy W' av.ownBlock) {av' : Value} (ho : W'.ownsRow w0.heap.size 82 1 av' (zs.length + 1) (vs ++ [.slice A x.after.length c])) : LfS w0 R P E X M D ts ns (zs ++ [x]) tv av' (vs ++ [.slice A x.after.length c]) kind x A c (W'.setCell ⟨R, 2, none⟩ av') := by
  obtain ⟨hR, ob⟩ := grow_set (j := 2) (u := av') h.after hg h.row (by decide)
  have oc : ∀ (b : Nat) (cs : Array Value) (t : TypeId), t ≠ 82 → t ≠ 88 → W.heap[b]? = some (.cells cs t (0, 0)) → (W'.setCell ⟨R, 2, none⟩ av').heap[b]? = W.heap[b]? := fun b cs t h1 h2 hb => (ob b _ hb (fun c' e => by injection e with _ e; exact h1 e) (fun c' e => by injection e with _ e; exact h2 e)).trans hb.symm
  have hn : WdsM (W'.setCell ⟨R, 2, none⟩ av') A x.after := h.names.frame (fun g cur hq => oc g cur _ (by decide) (by decide) hq)
  refine ⟨(row_set hR).trans rfl, own_frame h.tasks (fun q cur _ hq => oc q cur _ (by decide) (by decide) hq), h.places.block (fun es cl hp => (ob P _ hp (fun _ e => by cases e) (fun _ e => by cases e)).trans hp.symm), ?_, fun i z hz => ?_, (h.low.grown hg h.low.size (fun b e => (own_tag h.after e).1)).setCell (p := ⟨R, 2, none⟩) h.base.1 _, h.base, (oc _ _ _ (by decide) (by decide) h.err).trans h.err, (oc _ _ _ (by decide) (by decide) h.line).trans h.line, hn, ob _ _ h.marks (fun _ e => by cases e) (fun _ e => by cases e)⟩
  · rw [List.length_append]
    exact own_frame ho (fun q cur _ hq => Below.heap_setCell W' ⟨R, 2, none⟩ av' q (by
      show q ≠ R
      rintro rfl
      rw [hR] at hq
      injection hq with hq
      injection hq with _ h2
      exact absurd h2 (by decide)))
  · by_cases hi : i < zs.length
    · rw [List.getElem?_append_left hi] at hz
      obtain ⟨A', c', e, hA⟩ := h.aft i z hz
      exact ⟨A', c', by rw [List.getElem?_append_left (by omega)]; exact e, hA.frame (fun g cur hq => oc g cur _ (by decide) (by decide) hq)⟩
    · have hi2 : i = zs.length := by
        have := (List.getElem?_eq_some_iff.1 hz).1
        simp at this
        omega
      subst hi2
      obtain rfl : x = z := by simpa using hz
      exact ⟨A, c, by rw [← hvs]; simp, hn⟩
end
end Go.Proofs.YtcfnmjhelhdobaaGreatDoor

namespace Go.Proofs.YtcfnmjhelhdobaaGreatDoor
open Go.RowKit Go.Shelf
open Go.Maps (Keyed IsMap has)

attribute [local go_sem] Oper.semAt_some

/-- What line answers. -/
def LnO (w0 : World) (R P : Nat) (xs : List LnP) (r : FaP ⊕ LnP) (e : Ending) (w' : World) : Prop := Below w0.heap.size w0 w' ∧ match r with
  | .inl f => ∃ F, e = .returned (fltV F) ∧ FaultAt w' F f.p f.e
  | .inr x => e = .returned .nilIface ∧ ∃ tv av vs, RdM w0 R P (xs ++ [x]) tv av vs w'
/-- What lies in memory within the call: the lines, the result's cell, the first word's copy. -/
structure LpS (w0 : World) (R P E C : Nat) (xs : List LnP) (tv av : Value) (vs : List Value) (a : Wd) (W : World) : Prop where
  rd : RdM w0 R P xs tv av vs W
  err : W.heap[E]? = some (.cells #[.nilIface] 27 (0, 0))
  copy : W.heap[C]? = some (.cells #[.string a.t, .int .i64 a.p] 81 (0, 0))
section
variable {w0 w W W' : World} {R P E C : Nat} {xs : List LnP} {tv av : Value} {vs : List Value} {a : Wd}
theorem LpS.later (h : LpS w0 R P E C xs tv av vs a W) (hb : Below W.heap.size W W') : LpS w0 R P E C xs tv av vs a W' := ⟨h.rd.later hb, later_at hb h.err, later_at hb h.copy⟩
theorem line_res {tmps : Array Value} {B : Nat} {v : Value} (ht : tmps.getD 4 undef = .pointer (some ⟨B, 0, none⟩)) (h1 : W.heap[B]? = some (.cells #[v] 27 (0, 0))) :
    (results Tryz.f38 tmps).run Tryz.prog W = .ok v W := by
  have z := cellH h1 0
  simp at z ht
  simp [results, Tryz.results38, go_sem, ht, z]
theorem LpS.exit {f : FaP} {r : FaP ⊕ LnP} {F : Nat} {a' : Act} (h : LpS w0 R P E C xs tv av vs a W) (hE : w0.heap.size ≤ E) (hF : FaultAt W F f.p f.e) (hr : r = .inl f) (ha : a'.tmps.getD 4 undef = .pointer (some ⟨E, 0, none⟩)) (hd : a'.defers = []) :
    bodyPostM Fence.wide 5 Tryz.prog Tryz.f38 (LnO w0 R P xs r) .ret a' (W.setCell ⟨E, 0, none⟩ (fltV F)) := by
  show LeavesInM Fence.wide 5 Tryz.prog Tryz.f38 a'.tmps _ a'.defers .returning _
  rw [hd]
  refine ⟨_, line_res ha (row_set h.err), ?_⟩
  refine ⟨h.rd.low.setCell (p := ⟨E, 0, none⟩) hE _, ?_⟩
  rw [hr]
  refine ⟨F, rfl, (Below.heap_setCell W ⟨E, 0, none⟩ _ F (by
    show F ≠ E
    rintro rfl
    unfold FaultAt at hF
    rw [h.err] at hF
    injection hF with hF
    injection hF with _ h2
    exact absurd h2 (by decide))).trans hF⟩
theorem name_act {P' : Program} {Q : Exit → Act → World → Prop} {co : Code} {T : Array Value} {d : List Deferred} {w : World} (h : ∀ a0 : Act, a0 = { tmps := T, defers := d } → co.wp P' Q a0 w) : co.wp P' Q { tmps := T, defers := d } w := h _ rfl
theorem MLn.keep {X M q : Nat} {kind : ByteArray} {seen : List ByteArray} {x : LnP} {lv : Value} {bad : TypeId → Bool} {bm : Nat → Prop} (h : MLn W X M q kind seen x lv) (k : KeepT bad bm W W') (h1 : bad 123 = false) (h2 : bad 81 = false) (hM : ¬ bm M) : MLn W' X M q kind seen x lv := by
  obtain ⟨A, c, e, hA⟩ := h.aft
  obtain ⟨es, cl, hm⟩ := h.set.isMap
  exact ⟨(k.cells _ _ _ _ h1 h.row).trans h.row, h.set.block (k.maps _ es cl hM hm), A, c, e, hA.keep k h2⟩
theorem LpS.keep {bad : TypeId → Bool} {bm : Nat → Prop} (h : LpS w0 R P E C xs tv av vs a W) (k : KeepT bad bm W W') (hl : Below w0.heap.size w0 W') (h1 : bad 88 = false) (h2 : bad 47 = false) (h3 : bad 82 = false) (h4 : bad 81 = false) (h5 : bad 27 = false) (hP : ¬ bm P) : LpS w0 R P E C xs tv av vs a W' :=
  ⟨h.rd.keep k hl h1 h2 h3 h4 hP, (k.cells _ _ _ _ h5 h.err).trans h.err, (k.cells _ _ _ _ h4 h.copy).trans h.copy⟩
/-- Between two pairs. -/
def PaI (w0 : World) (R P E C X M : Nat) (xs : List LnP) (tv av : Value) (vs : List Value) (a : Wd) (g : Bool) (bt : ByteArray) (ws : List Wd) (k : Nat) (W : World) : Prop :=
  LpS w0 R P E C xs tv av vs a W ∧ ∃ lv seen x, MLn W X M k (kindB g) seen x lv ∧ pairsP g [] (ln0 bt) ws = pairsP g seen x (ws.drop (2 * k))
def PaX (w0 : World) (E : Nat) (g : Bool) (bt : ByteArray) (ws : List Wd) (W : World) : Prop :=
  Below w0.heap.size w0 W ∧ ∃ (f : FaP) (F : Nat), pairsP g [] (ln0 bt) ws = .inl f ∧ W.heap[E]? = some (.cells #[fltV F] 27 (0, 0)) ∧ FaultAt W F f.p f.e
theorem PaI.apc {X M k q : Nat} {g : Bool} {bt : ByteArray} {ws : List Wd} (h : PaI w0 R P E C X M xs tv av vs a g bt ws k W) (hc : ApC q W W') (hq : w0.heap.size ≤ q) : PaI w0 R P E C X M xs tv av vs a g bt ws k W' := by
  have kt : KeepT (fun _ => false) (fun _ => False) W W' := KeepT.of_apc hc
  obtain ⟨h1, lv, seen, x, h2, h3⟩ := h
  exact ⟨h1.keep kt (hc.below h1.rd.low hq (Nat.le_refl _)) rfl rfl rfl rfl rfl (fun x => x), lv, seen, x, h2.keep kt rfl rfl (fun x => x), h3⟩
theorem PaX.apc {q : Nat} {g : Bool} {bt : ByteArray} {ws : List Wd} (h : PaX w0 E g bt ws W) (hc : ApC q W W') (hq : w0.heap.size ≤ q) : PaX w0 E g bt ws W' := by
  obtain ⟨h1, f, F, h2, h3, h4⟩ := h
  exact ⟨hc.below h1 hq (Nat.le_refl _), f, F, h2, hc.block _ _ h3 (.inr (fun l e => by cases e)), hc.block _ _ h4 (.inr (fun l e => by cases e))⟩
theorem wds_drop {ad : Addr} {l : List Wd} {i : Nat} (h : WdsAt W (some ad) l) (hi : i ≤ l.length) {ad' : Addr} (he : i < l.length → ad' = ad.add (i * 2)) : WdsAt W (some ad') (l.drop i) := fun hn => by
  have hl : i < l.length := by rw [List.length_drop] at hn; omega
  obtain ⟨ad2, e, hc⟩ := h (by omega)
  injection e with e
  subst e
  refine ⟨_, rfl, fun j x hj => ?_⟩
  rw [List.getElem?_drop] at hj
  obtain ⟨h1, h2⟩ := hc _ _ hj
  rw [he hl]
  refine ⟨cell_of (by simp only [add_block]) (by simp only [add_off]; omega) ?_ h1, cell_of (by simp only [add_block]) (by simp only [add_off]; omega) rfl h2⟩
  unfold Addr.add
  split
  · split
    · have e0 : (i + j) * 2 = 0 := by omega
      rw [e0] at h1
      have := spot_none h1
      simpa [Addr.add] using this
    · rfl
  · rfl
theorem wds_take {A : Option Addr} {l : List Wd} {i : Nat} (h : WdsAt W A l) : WdsAt W A (l.take i) := fun hn => by
  obtain ⟨ad2, e, hc⟩ := h (by rw [List.length_take] at hn; omega)
  refine ⟨_, e, fun j x hj => ?_⟩
  rw [List.getElem?_take] at hj
  split at hj
  · exact hc _ _ hj
  · cases hj
theorem pairR_take (g : Bool) (seen : List ByteArray) (x : LnP) (l : List Wd) : pairR g seen x (l.take 2) = pairR g seen x l := by
  rcases l with _ | ⟨a, _ | ⟨b, r⟩⟩ <;> rfl
theorem two_readyH {P' : Program} {md : Region.Mode} {ops : Array Oper} {Q : Exit → Act → World → Prop} {S : World → Prop} {fuel i j : Nat} {listed : Array Bool} {a' : Act} {w : World} (hr : Region.ready md ops listed = [i, j])
    (h1 : wpOp P' ops Q i (fun b w' => S w' ∧ wpAnyH P' md ops Q S fuel (listed.setIfInBounds i true) b w') a' w) (h2 : wpOp P' ops Q j (fun b w' => S w' ∧ wpAnyH P' md ops Q S fuel (listed.setIfInBounds j true) b w') a' w) : wpAnyH P' md ops Q S (fuel + 1) listed a' w :=
  wpAnyH_ready hr (by simp) (fun q hq => by
    simp only [List.mem_cons, List.not_mem_nil, or_false] at hq
    rcases hq with rfl | rfl
    · exact h1
    · exact h2)
section
variable {X M D : Nat} {ts zs : List LnP} {ns : List ByteArray} {kind : ByteArray} {x : LnP} {A : Option Addr} {c : Nat}
/-- The call ends, its range's marks taken off. -/
theorem LfS.leave {v : Value} {r : FaP ⊕ LnP} {a' : Act} (hE : W.heap[E]? = some (.cells #[v] 27 (0, 0))) (hD : W.heap[D]? = some (.deferred (some []))) (ha : a'.tmps.getD 4 undef = .pointer (some ⟨E, 0, none⟩)) (hd : a'.defers = [{ target := .collected D, args := #[] }])
    (hR : LnO w0 R P xs r (.returned v) (W.putObj D (.deferred none))) : bodyPostM Fence.wide 5 Tryz.prog Tryz.f38 (LnO w0 R P xs r) .ret a' W := by
  show LeavesInM Fence.wide 5 Tryz.prog Tryz.f38 a'.tmps _ a'.defers .returning W
  rw [hd]
  refine ⟨by simp, .inl ⟨_, _, rfl, run_takeDeferred hD, ?_⟩⟩
  have hne : E ≠ D := fun e => by rw [e, hD] at hE; cases hE
  exact ⟨_, line_res ha ((World.putObj_heap_other hne).trans hE), hR⟩
theorem flt_other {F q : Nat} {a1 e1 : Int} {o : Obj} (h : FaultAt W F a1 e1) (hq : W.heap[q]? = some o) (ho : ∀ cs t m, o ≠ .cells cs t m) {o' : Obj} : FaultAt (W.putObj q o') F a1 e1 := by
  refine (World.putObj_heap_other (fun e : F = q => ?_)).trans h
  subst e
  unfold FaultAt at h
  rw [hq] at h
  injection h with h
  exact ho _ _ _ h
theorem flt_err {F : Nat} {a1 e1 : Int} {v u : Value} (h : FaultAt W F a1 e1) (hE : W.heap[E]? = some (.cells #[u] 27 (0, 0))) : FaultAt (W.setCell ⟨E, 0, none⟩ v) F a1 e1 := by
  refine (Below.heap_setCell W ⟨E, 0, none⟩ v F (by
    show F ≠ E
    rintro rfl
    unfold FaultAt at h
    rw [hE] at h
    injection h with h
    injection h with _ h2
    exact absurd h2 (by decide))).trans h
theorem LfS.dlow (h : LfS w0 R P E X M D ts ns zs tv av vs kind x A c W) (hD : w0.heap.size ≤ D) {v : Value} : Below w0.heap.size w0 ((W.setCell ⟨E, 0, none⟩ v).putObj D (.deferred none)) :=
  (h.low.setCell (p := ⟨E, 0, none⟩) h.base.2.2 v).trans ((Apart.put (bad := fun q => q = D) rfl).below (fun q hq => by omega) (h.low.setCell (p := ⟨E, 0, none⟩) h.base.2.2 v).size)
theorem LfS.exit {f : FaP} {r : FaP ⊕ LnP} {F : Nat} {a' : Act} (h : LfS w0 R P E X M D ts ns zs tv av vs kind x A c W) (hDl : w0.heap.size ≤ D) (hF : FaultAt W F f.p f.e) (hr : r = .inl f) (ha : a'.tmps.getD 4 undef = .pointer (some ⟨E, 0, none⟩)) (hd : a'.defers = [{ target := .collected D, args := #[] }]) :
    bodyPostM Fence.wide 5 Tryz.prog Tryz.f38 (LnO w0 R P xs r) .ret a' (W.setCell ⟨E, 0, none⟩ (fltV F)) := by
  have hne : D ≠ E := fun e => by have h1 := h.err; rw [← e, h.marks] at h1; cases h1
  have hD2 : (W.setCell ⟨E, 0, none⟩ (fltV F)).heap[D]? = some (.deferred (some [])) := (Below.heap_setCell W ⟨E, 0, none⟩ (fltV F) D hne).trans h.marks
  refine LfS.leave (row_set h.err) hD2 ha hd ⟨h.dlow hDl, ?_⟩
  rw [hr]
  exact ⟨F, rfl, flt_other (flt_err hF h.err) hD2 (fun _ _ _ e => by cases e)⟩
/-- All three are laid down: the lines told one more. -/
theorem LfS.fin {r : FaP ⊕ LnP} {a' : Act} (h : LfS w0 R P E X M D (xs ++ [x]) ((xs ++ [x]).map (·.name)) (xs ++ [x]) tv av vs kind x A c W) (hDl : w0.heap.size ≤ D) (hr : r = .inr x) (ha : a'.tmps.getD 4 undef = .pointer (some ⟨E, 0, none⟩)) (hd : a'.defers = [{ target := .collected D, args := #[] }]) :
    bodyPostM Fence.wide 5 Tryz.prog Tryz.f38 (LnO w0 R P xs r) .ret a' (W.setCell ⟨E, 0, none⟩ .nilIface) := by
  have hne : D ≠ E := fun e => by have h1 := h.err; rw [← e, h.marks] at h1; cases h1
  have hD2 : (W.setCell ⟨E, 0, none⟩ .nilIface).heap[D]? = some (.deferred (some [])) := (Below.heap_setCell W ⟨E, 0, none⟩ .nilIface D hne).trans h.marks
  refine LfS.leave (row_set h.err) hD2 ha hd ⟨h.dlow hDl, ?_⟩
  rw [hr]
  refine ⟨rfl, tv, av, vs, ?_⟩
  have k1 : KeepT (fun t => t == 27) (fun _ => False) W (W.setCell ⟨E, 0, none⟩ .nilIface) := KeepT.set h.err _
  have k2 : KeepT (fun t => t == 27) (fun _ => False) (W.setCell ⟨E, 0, none⟩ .nilIface) ((W.setCell ⟨E, 0, none⟩ .nilIface).putObj D (.deferred none)) := ⟨fun b cs t m _ hb => World.putObj_heap_other (fun e => by rw [e, hD2] at hb; cases hb), fun b es cl _ hb => World.putObj_heap_other (fun e => by rw [e, hD2] at hb; cases hb)⟩
  have hRd : RdM w0 R P (xs ++ [x]) tv av vs W := ⟨h.row, h.tasks, by have := h.places; rw [List.length_map] at this; exact this, h.after, h.aft, h.low, ⟨h.base.1, h.base.2.1⟩⟩
  exact hRd.keep (k1.trans k2) (h.dlow hDl) rfl rfl rfl rfl (fun x => x)
end
set_option maxHeartbeats 4000000 in
set_option maxRecDepth 100000 in
theorem line_is_ {ws : List Wd} {A : Option Addr} {c : Nat} (hR : RdM w0 R P xs tv av vs w) (hV : VarL w0) (hA : WdsAt w0 A (a :: ws)) (hc : (a :: ws).length ≤ c) (hl : (a :: ws).length ≤ 1000) (hs : ∀ y ∈ a :: ws, y.p + y.t.size ≤ 900000) (h8 : xs.length ≤ 8)
    (r : FaP ⊕ LnP) (hr : r = lineP (a :: ws) (xs.map (·.name))) : Calls Tryz.prog 38 #[.pointer (some ⟨R, 0, none⟩), .slice A (a :: ws).length c] w (LnO w0 R P xs r) := by
  obtain ⟨ad, rfl, _, _⟩ := hA.at_ (i := 0) (x := a) rfl
  have b1 := (Below.refl w.heap.size w).alloc (Nat.le_refl _) (.cells #[.nilIface] 27)
  have b2 := (Below.refl (w.alloc (.cells #[.nilIface] 27)).heap.size (w.alloc (.cells #[.nilIface] 27))).alloc (Nat.le_refl _) (.cells #[.string a.t, .int .i64 a.p] 81)
  have m2 := made_at (w.alloc (.cells #[.nilIface] 27)) (.cells #[.string a.t, .int .i64 a.p] 81)
  rw [World.size_alloc] at m2
  have HL1 := Lib.hid (show LpS w0 R P w.heap.size (w.heap.size + 1) xs tv av vs a ((w.alloc (.cells #[.nilIface] 27)).alloc (.cells #[.string a.t, .int .i64 a.p] 81)) from ⟨(hR.later b1).later b2, later_at b2 (made_at w _), m2⟩)
  have HSZ := Lib.hid (show w0.heap.size ≤ w.heap.size from hR.low.size)
  have hwA := hA.later hR.low |>.later b1
  obtain ⟨ad', e', a0, a1⟩ := hwA.at_ (i := 0) (x := a) rfl
  obtain rfl : ad = ad' := by injection e'
  have hz : ad.add (0 * 2) = ad := by simp [Addr.add]
  rw [hz] at a0 a1
  have hadb : ad.block < (w.alloc (.cells #[.nilIface] 27)).heap.size := World.block_lt_of_cell? _ _ a0
  have HV := Lib.hid hV
  have HA := Lib.hid hA
  have HS := Lib.hid hs
  have HR := Lib.hid hr
  have HC := Lib.hid hc
  have HL := Lib.hid hl
  have H8 := Lib.hid h8
  obtain ⟨B1, d1, rfl⟩ := own_slc hR.tasks
  have hpos : (0 : Int) < ((a :: ws).length : Int) := by simp
  clear hR hV hA hc hl hs h8 hr b1 b2 m2 hwA e' hz
  obtain ⟨n, hn⟩ : ∃ n, n = (a :: ws).length := ⟨_, rfl⟩
  rw [← hn] at HC HL hpos ⊢
  have HN := Lib.hid hn
  clear hn
  refine (callsIn_wide (n := 5)).1 ?_
  refine callsIn_of_wp_marks Tryz.func38 rfl trivial ?_ rfl
  simp only [Tryz.ntmps38, List.size_toArray, List.length_cons, List.length_nil, Nat.reduceAdd, Nat.reduceSub, Array.replicate_succ, Array.replicate_zero, List.push_toArray, List.append_toArray, List.nil_append, List.cons_append]
  refine wpIn_wide.2 ?_
  go_upto_region 2 with fail
  generalize hW1 : ((w.alloc (.cells #[.nilIface] 27)).alloc (.cells #[.string a.t, .int .i64 a.p] 81)) = W1 at HL1 ⊢
  clear hW1 a0 a1 hadb
  have HE := Lib.hid (show w0.heap.size ≤ w.heap.size from HSZ.out)
  have x0 := cellH HL1.out.rd.row 0
  have x1 := cellH HL1.out.rd.row 1
  simp at x0 x1
  by_cases h8 : xs.length = 8
  · have h8' : ((xs.length : Int) == 8) = true := by rw [beq_iff_eq]; omega
    have H88 := Lib.hid h8
    clear h8
    have HF := Lib.hid (fun W : World => mfault_is W a.p 16)
    have HV1 := Lib.hid (show r = .inl ⟨16, a.p⟩ by rw [HR.out]; exact lineP_full (by rw [List.length_map]; exact H88.out))
    have y1 := cellH HL1.out.copy 1
    simp at y1
    go_wp2_with fail
    refine (HF.out _).mono ?_
    rintro e w3 ⟨F, rfl, hF, _, hb3⟩
    have HL3 := Lib.hid (HL1.out.later hb3)
    have HFA := Lib.hid hF
    clear hF hb3
    have zf := freeH HL3.out.err 0
    have z0 := cellH HL3.out.err 0
    simp at z0
    unfold fltV
    go_wp2_with fail
    exact LpS.exit HL3.out HE.out HFA.out HV1.out rfl rfl
  · have h8' : ((xs.length : Int) == 8) = false := by rw [beq_eq_false_iff_ne]; omega
    have HN8 := Lib.hid (show (xs.map (·.name)).length ≠ 8 by rw [List.length_map]; exact h8)
    clear h8
    go_upto_region 4 with fail
    clear h8'
    have y0 := cellH HL1.out.copy 0
    simp at y0
    by_cases hk : a.t = sTask ∨ a.t = sGate
    rotate_left
    · have q1 : (a.t.toList == [116, 97, 115, 107]) = false := (ba_list (t := sTask) rfl).trans (decide_eq_false (fun e => hk (.inl e)))
      have q2 : (a.t.toList == [103, 97, 116, 101]) = false := (ba_list (t := sGate) rfl).trans (decide_eq_false (fun e => hk (.inr e)))
      have HK := Lib.hid hk
      clear hk
      have HF := Lib.hid (fun W : World => mfault_is W a.p 17)
      have HV1 := Lib.hid (show r = .inl ⟨17, a.p⟩ by rw [HR.out]; exact lineP_word HN8.out (fun e => HK.out (.inl e)) (fun e => HK.out (.inr e)))
      have y1 := cellH HL1.out.copy 1
      simp at y1
      go_wp2_with fail
      refine (HF.out _).mono ?_
      rintro e w3 ⟨F, rfl, hF, _, hb3⟩
      have HL3 := Lib.hid (HL1.out.later hb3)
      have HFA := Lib.hid hF
      clear hF hb3
      have zf := freeH HL3.out.err 0
      have z0 := cellH HL3.out.err 0
      simp at z0
      unfold fltV
      go_wp2_with fail
      exact LpS.exit HL3.out HE.out HFA.out HV1.out rfl rfl
    · obtain ⟨g, hg⟩ : ∃ g, a.t = kindB g := by
        rcases hk with e | e
        · exact ⟨false, e⟩
        · exact ⟨true, e⟩
      have HG := Lib.hid hg
      clear hk
      go_cut [26] from 26 to 34 (fun e wx => wx = W1 ∧ e = .bool false)
      case first =>
        have q1 : (a.t.toList == [116, 97, 115, 107]) = !g := by
          rw [ba_list (t := sTask) rfl, hg]
          cases g <;> decide
        have q2 : (a.t.toList == [103, 97, 116, 101]) = g := by
          rw [ba_list (t := sGate) rfl, hg]
          cases g <;> decide
        clear hg HG
        cases g with
        | true =>
          simp only [Bool.not_true] at q1
          go_wp2_with fail
          go_meet
          exact ⟨rfl, rfl⟩
        | false =>
          simp only [Bool.not_false] at q1
          go_wp2_with fail
          go_meet
          exact ⟨rfl, rfl⟩
      case rest =>
      obtain ⟨hwc, rfl⟩ := hcut
      have hwc := hwc.symm
      subst hwc
      clear hg
      go_upto_region 6 with fail
      cases ws with
      | nil =>
        have hlen : (n : Int) = 1 := by rw [HN.out]; rfl
        have HF := Lib.hid (fun W : World => mfault_is W a.p 3)
        have HV1 := Lib.hid (show r = .inl ⟨3, a.p⟩ by rw [HR.out]; exact lineP_form HN8.out HG.out)
        have y1 := cellH HL1.out.copy 1
        simp at y1
        go_wp2_with fail
        refine (HF.out _).mono ?_
        rintro e w3 ⟨F, rfl, hF, _, hb3⟩
        have HL3 := Lib.hid (HL1.out.later hb3)
        have HFA := Lib.hid hF
        clear hF hb3
        have zf := freeH HL3.out.err 0
        have z0 := cellH HL3.out.err 0
        simp at z0
        unfold fltV
        go_wp2_with fail
        exact LpS.exit HL3.out HE.out HFA.out HV1.out rfl rfl
      | cons b ws =>
        have hlen : (n : Int) = (ws.length : Int) + 2 := by rw [HN.out]; simp; omega
        have hl2 : ¬ (n : Int) < 2 := by omega
        have hl3 : (1 : Int) < (n : Int) := by omega
        have HLEN := Lib.hid hlen
        have hbw := fun (W : World) (hb : Below w0.heap.size w0 W) => show W.cell? ⟨ad.block, ad.off + 2, none⟩ = some (.string b.t) ∧ W.cell? ⟨ad.block, ad.off + 2 + 1, none⟩ = some (.int .i64 b.p) by
          obtain ⟨ad', e, h1, h2⟩ := (HA.out.later hb).at_ (i := 1) (x := b) rfl
          obtain rfl : ad = ad' := by injection e
          simp only [Addr.add] at h1 h2
          exact ⟨h1, h2⟩
        have HBW := Lib.hid hbw
        clear hbw hlen
        obtain ⟨bt, bp⟩ := b
        obtain ⟨b0, b1⟩ := HBW.out _ HL1.out.rd.low
        simp only [Nat.add_assoc, Nat.reduceAdd] at b1
        have HNM := Lib.hid (fun W : World => name_is W bt bp)
        have HRL := Lib.hid (show r = _ from HR.out.trans (lineP_two HN8.out HG.out))
        obtain ⟨nb, hnb⟩ : ∃ nb, nb = nameP bt := ⟨_, rfl⟩
        rw [← hnb] at HNM HRL
        have HNB := Lib.hid hnb
        clear hnb
        go_wp2_with fail
        cases nb with
        | false =>
          refine (show Calls Tryz.prog 52 #[wdV bt bp] W1 (OneOut W1 none (.string ⟨#[]⟩) 15 bp) from HNM.out W1).mono ?_
          rintro e w3 ⟨hb3, F, rfl, hF⟩
          have HL3 := Lib.hid (HL1.out.later hb3)
          have HFA := Lib.hid hF
          have HV1 := Lib.hid (show r = .inl ⟨15, bp⟩ from HRL.out)
          clear hb3 hF b0 b1
          have zf := freeH HL3.out.err 0
          have z0 := cellH HL3.out.err 0
          simp at z0
          unfold fltV
          go_wp2_with fail
          exact LpS.exit HL3.out HE.out HFA.out HV1.out rfl rfl
        | true =>
          refine (show Calls Tryz.prog 52 #[wdV bt bp] W1 (OneOut W1 (some (.string bt)) (.string ⟨#[]⟩) 15 bp) from HNM.out W1).mono ?_
          rintro e w3 ⟨hb3, rfl⟩
          have HL3 := Lib.hid (HL1.out.later hb3)
          have HW3 := Lib.hid (show Below w0.heap.size w0 w3 from HL3.out.rd.low)
          clear hb3 b0 b1 HL1 x0 x1 y0
          obtain ⟨b0, b1⟩ := HBW.out _ HW3.out
          simp only [Nat.add_assoc, Nat.reduceAdd] at b1
          have hbz : bt.size ≤ 1000000 := by have := HS.out ⟨bt, bp⟩ (by simp); simp only at this; omega
          have x1 := cellH HL3.out.rd.row 1
          simp at x1
          obtain ⟨D, hown, hm, hh⟩ := HL3.out.rd.places
          have HO := Lib.hid hown
          obtain ⟨hh1, hh2⟩ := hh bt
          obtain ⟨m, hm2⟩ : ∃ m, m = memB bt (xs.map (·.name)) := ⟨_, rfl⟩
          have hfm : (findP (xs.map (·.name)) bt).isSome = m := by
            rw [hm2, findP, memB, List.findIdx?_isSome]
          have hhm : has D (keyS bt) = m := hh1.trans hfm
          have HHM := Lib.hid hhm
          have HM := Lib.hid hm2
          clear hown hm hh hh1 hh2 hm2 hfm hhm
          go_upto_region 12 with (at_lookup; refine wpList_lookup_own_ok_int _ rfl _ _ 86 rfl 9 3 _ key_S Tryz.underlying86 Tryz.underlying3 (zeroN _) P xs.length D rfl HO.out _ _ rfl (key_of hbz) ?_; intro cc _ _; rw [HHM.out])
          clear x1 HO HHM
          cases m with
          | true =>
            have HL1 := HL3
            have HF := Lib.hid (fun W : World => mfault_is W bp 7)
            have HV1 := Lib.hid (show r = .inl ⟨7, bp⟩ by rw [HRL.out, ← HM.out]; rfl)
            go_wp2_with fail
            refine (HF.out _).mono ?_
            rintro e w3 ⟨F, rfl, hF, _, hb3⟩
            have HL3 := Lib.hid (HL1.out.later hb3)
            have HFA := Lib.hid hF
            clear hF hb3
            have zf := freeH HL3.out.err 0
            have z0 := cellH HL3.out.err 0
            simp at z0
            unfold fltV
            go_wp2_with fail
            exact LpS.exit HL3.out HE.out HFA.out HV1.out rfl rfl
          | false =>
            have y0 : w3.cell? ⟨w.heap.size + 1, 0, none⟩ = some (.string (kindB g)) := by
              have z := cellH HL3.out.copy 0
              simp at z
              rw [z, HG.out]
            have hmm := @run_makeMap Tryz.prog
            have b4 := (Below.refl w3.heap.size w3).alloc (Nat.le_refl _) (.map #[] 0)
            have b5 := (Below.refl (w3.alloc (.map #[] 0)).heap.size (w3.alloc (.map #[] 0))).alloc (Nat.le_refl _) (.cells (lmC (kindB g) w3.heap.size (ln0 bt) (.slice none 0 0)) 123)
            have m5 := made_at (w3.alloc (.map #[] 0)) (.cells (lmC (kindB g) w3.heap.size (ln0 bt) (.slice none 0 0)) 123)
            rw [World.size_alloc] at m5
            have HI5 := Lib.hid (show PaI w0 R P w.heap.size (w.heap.size + 1) (w3.heap.size + 1) w3.heap.size xs (.slice B1 xs.length d1) av vs a g bt ws 0 ((w3.alloc (.map #[] 0)).alloc (.cells (lmC (kindB g) w3.heap.size (ln0 bt) (.slice none 0 0)) 123)) from
              ⟨(HL3.out.later b4).later b5, .slice none 0 0, [], ln0 bt, ⟨m5, (SetIs.made w3).later b5, none, 0, rfl, fun h => absurd h (by simp [ln0])⟩, rfl⟩)
            have HS5 := Lib.hid (show ((w3.alloc (.map #[] 0)).alloc (.cells (lmC (kindB g) w3.heap.size (ln0 bt) (.slice none 0 0)) 123)).heap.size = w3.heap.size + 2 by simp)
            have HS3 := Lib.hid (show w0.heap.size ≤ w3.heap.size ∧ w.heap.size + 1 < w3.heap.size ∧ P < w3.heap.size from ⟨HL3.out.rd.low.size, (Array.getElem?_eq_some_iff.1 HL3.out.copy).1, by obtain ⟨es, cl, hp⟩ := HL3.out.rd.places.isMap; exact (Array.getElem?_eq_some_iff.1 hp).1⟩)
            clear b4 b5 m5 b0 b1
            unfold lmC ln0 at HI5 HS5
            dsimp only at HI5 HS5
            go_upto_region 15 with fail
            generalize hW5 : ((w3.alloc (.map #[] 0)).alloc (.cells #[.string (kindB g), .map (some w3.heap.size), .string bt, .slice none 0 0, .int .i64 0, .int .i64 5, .int .i64 0, .int .i64 0, .int .u16 0, .slice none 0 0] 123)) = W5 at HI5 HS5 ⊢
            clear hW5 y0 hmm
            go_cut [78] from 76 to 78 (fun e wx => ∃ ad2 : Addr, e = .func (.func 79) #[] #[.pointer (some ⟨W5.heap.size, 0, none⟩), .pointer (some ⟨W5.heap.size + 1, 0, none⟩)] ∧ wx = (W5.alloc (.cells #[.slice (some ad2) (n - 2) (c - 2)] 82)).alloc (.cells #[.int .i64 2] 3) ∧ (2 < n → ad2 = ad.add 4))
            case first =>
              have hn2 : (2 : Int) ≤ (n : Int) := by omega
              clear HI5 HS5 HS3
              by_cases hc2 : c = 2
              · have hnn : ¬ 2 < n := by have := HC.out; omega
                subst hc2
                have HCK := Lib.hid (chunk_is W5 (some ad) (n - 2) (2 - 2))
                go_wp2_with fail
                refine HCK.out.mono ?_
                rintro e w6 ⟨rfl, rfl⟩
                go_wp2_with fail
                go_meet
                exact ⟨ad, rfl, rfl, fun h => absurd h hnn⟩
              · have HCK := Lib.hid (chunk_is W5 (some (ad.add 4)) (n - 2) (c - 2))
                go_wp2_with fail
                refine HCK.out.mono ?_
                rintro e w6 ⟨rfl, rfl⟩
                go_wp2_with fail
                go_meet
                exact ⟨ad.add 4, rfl, rfl, fun _ => rfl⟩
            case rest =>
            obtain ⟨ad2, rfl, hwc, had2⟩ := hcut
            generalize wc = wq at hwc ⊢
            have b6 := (Below.refl W5.heap.size W5).alloc (Nat.le_refl _) (.cells #[.slice (some ad2) (n - 2) (c - 2)] 82)
            have b7 := (Below.refl (W5.alloc (.cells #[.slice (some ad2) (n - 2) (c - 2)] 82)).heap.size (W5.alloc (.cells #[.slice (some ad2) (n - 2) (c - 2)] 82))).alloc (Nat.le_refl _) (.cells #[.int .i64 2] 3)
            have m7 := made_at (W5.alloc (.cells #[.slice (some ad2) (n - 2) (c - 2)] 82)) (.cells #[.int .i64 2] 3)
            rw [World.size_alloc] at m7
            have m6 := later_at b7 (made_at W5 (.cells #[.slice (some ad2) (n - 2) (c - 2)] 82))
            have b57 := below_step b6 b7
            have hsz7 : ((W5.alloc (.cells #[.slice (some ad2) (n - 2) (c - 2)] 82)).alloc (.cells #[.int .i64 2] 3)).heap.size = w3.heap.size + 4 := by rw [World.size_alloc, World.size_alloc, HS5.out]
            rw [← hwc] at m6 m7 b57 hsz7
            have HI7 : PaI w0 R P w.heap.size (w.heap.size + 1) (w3.heap.size + 1) w3.heap.size xs (.slice B1 xs.length d1) av vs a g bt ws 0 wq := by
              obtain ⟨h1, lv, seen, x, h2, h3⟩ := HI5.out
              exact ⟨h1.later b57, lv, seen, x, h2.later b57, h3⟩
            have hsz5 := HS5.out
            rw [hsz5] at m6 m7 ⊢
            have hnw : n - 2 = ws.length := by have := HLEN.out; omega
            rw [hnw] at m6
            have hit := chunk_iter (w := wq) (ad := ad2) (m := ws.length) (c := c - 2) (B := w3.heap.size + 2) 4 (by omega) m6 m7 (by have := HC.out; omega) (by have := HL.out; omega)
            have HIT := Lib.hid hit
            have HAD := Lib.hid had2
            have HS7 := Lib.hid hsz7
            have HI := Lib.hid HI7
            have HNW := Lib.hid hnw
            clear hwc b6 b7 m6 m7 b57 hsz5 HI5 HS5 hit had2 hsz7 HI7 hnw
            go_wp2_with fail
            refine name_act (fun a0 ha0 => ?_)
            refine (wpIn_wide (n := 5)).1 ?_
            refine wpIn_range2 rfl (by omega) (gf := 79) (lb := #[.pointer (some ⟨w3.heap.size + 2, 0, none⟩), .pointer (some ⟨w3.heap.size + 2 + 1, 0, none⟩)]) (by rw [ha0]; rfl) trivial (enters_of Tryz.func79 (by kernel_rfl) rfl)
              (bad := ownB (w3.heap.size + 2)) (all := fun q => ownB (w3.heap.size + 2) q ∨ q = wq.heap.size ∨ q = wq.heap.size + 1) (encs := encC ad2 ws.length) (N := (ws.length + 1) / 2) (fun q hq => by unfold ownB at hq; have := HS7.out; omega) (fun _ => Iff.rfl) HIT.out (fun _ => rfl)
              (fun k W => PaI w0 R P w.heap.size (w.heap.size + 1) (w3.heap.size + 1) w3.heap.size xs (.slice B1 xs.length d1) av vs a g bt ws k W) (PaX w0 w.heap.size g bt ws)
              (fun k a' W => PaI w0 R P w.heap.size (w.heap.size + 1) (w3.heap.size + 1) w3.heap.size xs (.slice B1 xs.length d1) av vs a g bt ws k W ∧ a' = { tmps := (a0.tmps.setIfInBounds 79 (.slice (some (if chunkN ws.length k = 0 then ad2 else ad2.add (2 * k * 2))) (chunkN ws.length k) (chunkN ws.length k))).setIfInBounds 11 (.slice (some (if chunkN ws.length k = 0 then ad2 else ad2.add (2 * k * 2))) (chunkN ws.length k) (chunkN ws.length k)), defers := [] })
              (fun k A B h hc => h.apc hc (by have := HS7.out; have := HS3.out; omega)) (fun A B h hc => h.apc hc (by have := HS7.out; have := HS3.out; omega)) (fun k a' A B h hc => ⟨h.1.apc hc (by have := HS7.out; have := HS3.out; omega), h.2⟩) HI.out ?assign ?body ?done ?stop
            case assign =>
              intro k W hk hs hI
              subst ha0
              unfold encC
              generalize (Value.slice (some (if chunkN ws.length k = 0 then ad2 else ad2.add (2 * k * 2))) (chunkN ws.length k) (chunkN ws.length k)) = vv
              gi_wp2
              exact ⟨Keeps.refl _ _, hI, rfl⟩
            case body =>
              rintro k a' W hk hs ⟨hI, rfl⟩
              subst ha0
              simp only [List.setIfInBounds_toArray, List.set_cons_succ, List.set_cons_zero]
              obtain ⟨hL, lv, seen, x, hM, hP⟩ := hI
              have h2k : 2 * k < ws.length := by omega
              obtain ⟨a1, r1, hd1⟩ : ∃ a1 r1, ws.drop (2 * k) = a1 :: r1 := by
                cases hdd : ws.drop (2 * k) with
                | nil => have := List.drop_eq_nil_iff.1 hdd; omega
                | cons a1 r1 => exact ⟨a1, r1, rfl⟩
              obtain ⟨ct, hct⟩ : ∃ ct, ct = chunkN ws.length k := ⟨_, rfl⟩
              have hct1 : ct ≠ 0 := by rw [hct, chunkN]; omega
              have hlen1 : (a1 :: r1.take 1).length = ct := by
                have : (ws.drop (2 * k)).length = ws.length - 2 * k := List.length_drop
                rw [hd1] at this
                rw [hct, chunkN, List.length_cons, List.length_take]
                simp only [List.length_cons] at this
                omega
              rw [← hct, if_neg hct1]
              have hw1 : WdsAt W (some (ad2.add (2 * k * 2))) (a1 :: r1.take 1) := by
                have e1 := HA.out.later hL.rd.low
                have e2 := wds_drop (i := 2) e1 (by simp) (ad' := ad2) (fun h => by rw [HAD.out (by have := HLEN.out; omega)])
                have e3 := wds_drop (i := 2 * k) e2 (by simp; omega) (ad' := ad2.add (2 * k * 2)) (fun _ => rfl)
                have e4 := wds_take (i := 2) e3
                rw [show List.drop (2 * k) (List.drop 2 (a :: ⟨bt, bp⟩ :: ws)) = ws.drop (2 * k) from rfl, hd1] at e4
                exact e4
              have hsm : ∀ y ∈ a1 :: r1.take 1, y.p + y.t.size ≤ 900000 := fun y hy => HS.out y (by
                have : y ∈ ws.drop (2 * k) := by
                  rw [hd1]
                  rcases List.mem_cons.1 hy with h | h
                  · rw [h]; simp
                  · exact List.mem_cons_of_mem _ (List.mem_of_mem_take h)
                simp [List.mem_of_mem_drop this])
              have hs3 := HS3.out
              have hVV : ∀ W' : World, Apart (fun i => i = w3.heap.size + 1 ∨ i = w3.heap.size) W W' → VarL W' := fun W' ha =>
                HV.out.later (hL.rd.low.trans (ha.below (n := w0.heap.size) (fun b hb => by omega) hL.rd.low.size))
              have hkt : ∀ W' : World, Apart (fun i => i = w3.heap.size + 1 ∨ i = w3.heap.size) W W' → KeepT (fun t => t == 123) (fun b => b = w3.heap.size) W W' := fun W' ha => KeepT.of_pair hM ha
              obtain ⟨rp, hrp⟩ : ∃ rp, rp = pairR g seen x (a1 :: r1.take 1) := ⟨_, rfl⟩
              have hpr := pair_is (c := ct) hVV hM (by have := HL.out; have := HLEN.out; omega) hw1 hsm rp hrp
              rw [hlen1] at hpr
              have hrp2 : rp = pairR g seen x (ws.drop (2 * k)) := by
                rw [hrp, ← pairR_take g seen x (ws.drop (2 * k)), hd1]
                rfl
              have hps := hP.trans (pairs_step (g := g) (seen := seen) (x := x) (l := ws.drop (2 * k)) (by rw [hd1]; simp))
              rw [← hrp2, List.drop_drop] at hps
              have HPR := Lib.hid hpr
              have HPS := Lib.hid hps
              have HLL := Lib.hid hL
              have HKT := Lib.hid hkt
              have HLOW := Lib.hid (fun (W' : World) (ha : Apart (fun i => i = w3.heap.size + 1 ∨ i = w3.heap.size) W W') => show Below w0.heap.size w0 W' from hL.rd.low.trans (ha.below (n := w0.heap.size) (fun b hb => by omega) hL.rd.low.size))
              clear hL hM hP h2k hd1 hlen1 hw1 hsm hs3 hVV hkt hrp hpr hrp2 hps hct hct1
              gi_wp2
              refine ⟨trivial, (CallsIn.inRound _ (callsIn_wide.2 HPR.out)).mono ?_⟩
              cases rp with
              | inl f =>
                rintro e W2 ⟨hap, F, rfl, hF⟩
                have hkp := HKT.out _ hap
                have hlw := HLOW.out _ hap
                have he2 := (hkp.cells _ _ _ _ rfl HLL.out.err).trans HLL.out.err
                have z0 := cellH he2 0
                have zf := freeH he2 0
                simp at z0
                have HAP := Lib.hid hap
                have HFA := Lib.hid hF
                have HLW := Lib.hid hlw
                have HE2 := Lib.hid he2
                clear hap hF hkp hlw he2
                unfold fltV
                gi_wp2
                have hs3 := HS3.out
                have hs7 := HS7.out
                refine ⟨⟨by simpa using HAP.out.size, fun q hq hl => ?_⟩, HLW.out.setCell (p := ⟨w.heap.size, 0, none⟩) HSZ.out _, f, F, HPS.out, row_set HE2.out, ?_⟩
                · refine (Below.heap_setCell W2 ⟨w.heap.size, 0, none⟩ _ q (by show q ≠ w.heap.size; unfold ownB at hq; omega)).trans (HAP.out.block q hl (fun hx => by unfold ownB at hq; omega))
                · refine (Below.heap_setCell W2 ⟨w.heap.size, 0, none⟩ _ F (by
                    show F ≠ w.heap.size
                    rintro rfl
                    have hf := HFA.out
                    unfold FaultAt at hf
                    rw [HE2.out] at hf
                    injection hf with hf
                    injection hf with _ h2
                    exact absurd h2 (by decide))).trans HFA.out
              | inr y =>
                rintro e W2 ⟨hap, rfl, lv2, hM2⟩
                have hkp := HKT.out _ hap
                have hs3 := HS3.out
                have hl2 := HLL.out.keep hkp (HLOW.out _ hap) rfl rfl rfl rfl rfl (by omega)
                have HAP := Lib.hid hap
                have HL2 := Lib.hid hl2
                have HM2 := Lib.hid hM2
                clear hap hM2 hkp hl2 hs3
                gi_wp2
                have hs3 := HS3.out
                have hs7 := HS7.out
                refine ⟨⟨HAP.out.size, fun q hq hl => HAP.out.block q hl (fun hx => by unfold ownB at hq; omega)⟩, HL2.out, lv2, y.2, y.1, HM2.out, ?_⟩
                rw [HPS.out, show 2 * (k + 1) = 2 * k + 2 by omega]
            case done =>
              intro W hI hD
              subst ha0
              obtain ⟨hL, lv, seen, x, hM, hP⟩ := hI
              rw [List.drop_eq_nil_of_le (by omega)] at hP
              have hP : pairsP g [] (ln0 bt) ws = .inr (x, seen) := hP
              obtain ⟨wb, hwb⟩ : ∃ wb, wb = wholeB g seen := ⟨_, rfl⟩
              have HWH := Lib.hid (whole_is hM wb hwb)
              have HV2 := Lib.hid (show r = if wb then .inr x else .inl ⟨3, a.p⟩ by rw [HRL.out, ← HM.out, hP, hwb]; rfl)
              have hname : x.name = bt := (pairs_inv ws [] (ln0 bt) (x, seen) (ln0_inv (of_decide_eq_true HNB.out.symm)) (fun h => absurd h (by simp)) hP).2.1
              have HNAME := Lib.hid hname
              obtain ⟨A9, c9, elv, hA9⟩ := hM.aft
              subst elv
              have hs3 := HS3.out
              have HF0 := Lib.hid (show LfS w0 R P w.heap.size (w3.heap.size + 1) w3.heap.size wq.heap.size xs (xs.map (·.name)) xs (.slice B1 xs.length d1) av vs (kindB g) x A9 c9 W from
                ⟨hL.rd.row, hL.rd.tasks, by have := hL.rd.places; rw [List.length_map]; exact this, hL.rd.after, hL.rd.aft, hL.rd.low, ⟨hL.rd.base.1, hL.rd.base.2, HSZ.out⟩, hL.err, hM.row, hA9, hD⟩)
              have HCP := Lib.hid hL.copy
              have HDL := Lib.hid (show w0.heap.size ≤ wq.heap.size by have := HS7.out; omega)
              clear hL hM hP hwb hname hA9 hs3 hD
              go_wp2_with fail
              refine HWH.out.mono ?_
              rintro e W2 ⟨rfl, hb2⟩
              have HF2 := Lib.hid (HF0.out.later hb2)
              have HCP2 := Lib.hid (later_at hb2 HCP.out)
              clear hb2 HF0 HCP HWH
              cases wb with
              | false =>
                have HF := Lib.hid (fun W : World => mfault_is W a.p 3)
                have HV1 := Lib.hid (show r = .inl ⟨3, a.p⟩ from HV2.out)
                have y1 := cellH HCP2.out 1
                simp at y1
                go_wp2_with fail
                refine (HF.out _).mono ?_
                rintro e w4 ⟨F, rfl, hF, _, hb3⟩
                have HL3 := Lib.hid (HF2.out.later hb3)
                have HFA := Lib.hid hF
                clear hF hb3
                have zf := freeH HL3.out.err 0
                have z0 := cellH HL3.out.err 0
                simp at z0
                unfold fltV
                go_wp2_with fail
                exact LfS.exit HL3.out HDL.out HFA.out HV1.out rfl rfl
              | true =>
                have HV1 := Lib.hid (show r = .inr x from HV2.out)
                clear HCP2
                go_upto_region 22 with fail
                refine wp_region_phase3 (fun W' => W' = W2.drew) 10 1 (by kernel_rfl) (by kernel_rfl) rfl (by kernel_rfl) (by kernel_rfl) (by kernel_rfl) rfl ?_
                intro hne
                simp only [List.take_succ_cons, List.take_zero]
                have HF3 := Lib.hid (HF2.out.later (Below.refl _ _).drew)
                have f0 : ∀ y : HeldW (fun W' => W' = W2.drew), y.w.cell? ⟨R, 0, none⟩ = some (.slice B1 xs.length d1) := fun y => by
                  rw [y.ok]
                  have := cellH HF3.out.row 0
                  simpa using this
                have f1 : ∀ y : HeldW (fun W' => W' = W2.drew), y.w.cell? ⟨R, 1, none⟩ = some (.map (some P)) := fun y => by
                  rw [y.ok]
                  have := cellH HF3.out.row 1
                  simpa using this
                repeat (go_big_quiet_step (fail))
                refine wpQuiet_nil ?_
                rintro W3 ⟨⟨W3, hS3⟩, rfl⟩
                subst hS3
                clear f0 f1 hne HF2
                generalize W2.drew = W3 at *
                obtain ⟨D9, hown9, hm9, hh9⟩ := HF3.out.places
                obtain ⟨W4, hrun4, hown4, hg4⟩ := hown9.update key_S Tryz.underlying86 (by rw [List.length_map]; have := H8.out; unfold maxLen; omega) (key_of hbz) (plainElem_int Tryz.underlying3 (a := (xs.length : Int)) (WalkArith.wf_i64 (by have := H8.out; omega)))
                have HF4 := Lib.hid (HF3.out.put hg4 (n := bt) (by
                  rw [List.length_append, List.length_singleton]
                  refine MapIs.put (fun hin => ?_) hm9 hh9 (by rw [List.length_map] at hown4 ⊢; exact hown4)
                  have := HM.out
                  rw [memB_iff.2 hin] at this
                  cases this))
                refine one_ready (i := 10) (by kernel_rfl) (wpOp_step rfl (fun KK hKK => ?_))
                go_simp
                refine hKK _ _ ?_
                clear hKK KK hrun4 hown4 hg4 hown9 hm9 hh9 HF3
                refine ⟨by kernel_rfl, ?_⟩
                go_upto_region 23 with fail
                go_cut [100] from 100 to 110 (fun e wx => e = .pointer (some ⟨R, 0, none⟩) ∧ ∃ B7 d7, Hid (LfS w0 R P w.heap.size (w3.heap.size + 1) w3.heap.size wq.heap.size (xs ++ [x]) (xs.map (·.name) ++ [bt]) xs (.slice B7 (xs.length + 1) d7) av vs (kindB g) x A9 c9 wx))
                case first =>
                  obtain ⟨i5, hi5, hv0, hv1, hv2⟩ := info_all info_task
                  have HF5 := Lib.hid (HF4.out.later (Below.refl _ _).drew)
                  refine wp_region_noPanic ?_
                  refine wp_region_held_drew (S := fun W' => W'.heap[w3.heap.size + 1]? = some (.cells (lmC (kindB g) w3.heap.size x (.slice A9 x.after.length c9)) 123 (0, 0))) (by kernel_rfl) (by exact HF5.out.line) (fun hHeld => ?_)
                  refine take_yes 0 100 (v := ?_) rfl rfl (by kernel_rfl) (by kernel_rfl) (by kernel_rfl) noPanic_any (by rfl) hHeld ?_ ?_
                  rotate_left
                  · intro wx hSw; (try dsimp only at hSw); go_simp <;> with_reducible rfl
                  simp only [Act.put, List.setIfInBounds_toArray, List.set_cons_zero, List.set_cons_succ]
                  refine take_yes 1 101 (v := ?_) rfl rfl (by kernel_rfl) (by kernel_rfl) (by kernel_rfl) noPanic_any (by rfl) hHeld ?_ ?_
                  rotate_left
                  · intro wx hSw; (try dsimp only at hSw); go_simp <;> with_reducible rfl
                  simp only [Act.put, List.setIfInBounds_toArray, List.set_cons_zero, List.set_cons_succ]
                  refine take_yes 2 102 (v := ?_) rfl rfl (by kernel_rfl) (by kernel_rfl) (by kernel_rfl) noPanic_any (by rfl) hHeld ?_ ?_
                  rotate_left
                  · intro wx hSw; (try dsimp only at hSw); go_simp <;> with_reducible rfl
                  simp only [Act.put, List.setIfInBounds_toArray, List.set_cons_zero, List.set_cons_succ]
                  refine take_yes 3 103 (v := ?_) rfl rfl (by kernel_rfl) (by kernel_rfl) (by kernel_rfl) noPanic_any (by rfl) hHeld ?_ ?_
                  rotate_left
                  · intro wx hSw; (try dsimp only at hSw); go_simp <;> with_reducible rfl
                  simp only [Act.put, List.setIfInBounds_toArray, List.set_cons_zero, List.set_cons_succ]
                  refine take_yes 5 105 (v := ?_) rfl rfl (by kernel_rfl) (by kernel_rfl) (by kernel_rfl) noPanic_any (by rfl) hHeld ?_ ?_
                  rotate_left
                  · intro wx hSw; (try dsimp only at hSw); go_simp <;> with_reducible rfl
                  simp only [Act.put, List.setIfInBounds_toArray, List.set_cons_zero, List.set_cons_succ]
                  refine take_yes 6 106 (v := ?_) rfl rfl (by kernel_rfl) (by kernel_rfl) (by kernel_rfl) noPanic_any (by rfl) hHeld ?_ ?_
                  rotate_left
                  · intro wx hSw; (try dsimp only at hSw); have y2 := cellH hSw 2; have y3 := cellH hSw 3; have y4 := cellH hSw 4; have y5 := cellH hSw 5; have y6 := cellH hSw 6; have y7 := cellH hSw 7; have y8 := cellH hSw 8; simp [lmC] at y2 y3 y4 y5 y6 y7 y8; go_simp <;> with_reducible rfl
                  simp only [Act.put, List.setIfInBounds_toArray, List.set_cons_zero, List.set_cons_succ]
                  generalize W4.drew = W5 at *
                  have hb6 := (Below.refl W5.heap.size W5).alloc (Nat.le_refl _) (.cells #[.string x.name, .slice none 0 0, .int .i64 x.retry, .int .i64 x.time, .int .i64 x.need, .int .i64 x.lv, .int .u16 x.st] 47)
                  have HF6 := Lib.hid (HF5.out.later hb6)
                  have HNW := Lib.hid (cells_new W5 [.string x.name, .slice none 0 0, .int .i64 x.retry, .int .i64 x.time, .int .i64 x.need, .int .i64 x.lv, .int .u16 x.st] 47)
                  have hbase : w0.heap.size ≤ (W5.alloc (.cells #[.string x.name, .slice none 0 0, .int .i64 x.retry, .int .i64 x.time, .int .i64 x.need, .int .i64 x.lv, .int .u16 x.st] 47)).heap.size := HF6.out.low.size
                  have h8' := H8.out
                  clear hb6 hHeld
                  refine two_readyH (i := 4) (j := 7) (by kernel_rfl) (wpOp_step rfl (fun KK hKK => ?_)) (wpOp_step rfl (fun KK hKK => ?_))
                  · skip
                    have HKK := Lib.hid hKK
                    clear hKK
                    have z0 := cellH HF5.out.row 0
                    simp at z0
                    go_simp
                    refine HKK.out _ _ ⟨HF5.out.line, ?_⟩
                    clear HKK KK z0
                    (try simp only [Act.put, List.setIfInBounds_toArray, List.set_cons_zero, List.set_cons_succ])
                    refine one_readyH (i := 7) (by kernel_rfl) (wpOp_step rfl (fun KK hKK => ?_))
                    have HKK := Lib.hid hKK
                    clear hKK
                    go_simp
                    refine HKK.out _ _ ⟨HF6.out.line, ?_⟩
                    clear HKK KK
                    (try simp only [Act.put, List.setIfInBounds_toArray, List.set_cons_zero, List.set_cons_succ])
                    refine one_readyH (i := 8) (by kernel_rfl) (wpOp_step rfl (fun KK hKK => ?_))
                    have HKK := Lib.hid hKK
                    clear hKK
                    refine step_append_own _ rfl (.tmp 104) (.tmp 107) 23 rfl w0.heap.size 47 i5 _ 7 80 Tryz.underlying23 hi5 hv0 hv1 hv2 rfl (by omega) _ _ _ rfl HF6.out.tasks ⟨W5.heap.size, 0, none⟩ 1 1 [.string x.name, .slice none 0 0, .int .i64 x.retry, .int .i64 x.time, .int .i64 x.need, .int .i64 x.lv, .int .u16 x.st] rfl rfl HNW.out (by simp [Value.oneCell']) (by unfold maxLen; omega) (by omega) hbase ?_
                    intro v7 W7 hown7 hg7 _
                    obtain ⟨B7, d7, rfl⟩ := own_slc hown7
                    have hR7 := (grow_set (j := 0) (u := .nilIface) HF6.out.tasks hg7 HF6.out.row (by decide)).1
                    have hX7 : W7.heap[w3.heap.size + 1]? = some (.cells (lmC (kindB g) w3.heap.size x (.slice A9 x.after.length c9)) 123 (0, 0)) := (hg7.block _ (Array.getElem?_eq_some_iff.1 HF6.out.line).1 (fun e => by
                      obtain ⟨_, cur', h2⟩ := own_tag HF6.out.tasks e.symm
                      exact absurd (tag_ne HF6.out.line h2) (by decide))).trans HF6.out.line
                    have HF8 := Lib.hid (HF6.out.task (y := x) hg7 hown7)
                    have HX7 := Lib.hid hX7
                    refine HKK.out _ _ ⟨hX7, ?_⟩
                    clear HKK KK hX7 hown7 hg7 HNW hbase HF6 HF5
                    (try simp only [Act.put, List.setIfInBounds_toArray])
                    refine one_readyH (i := 9) (by kernel_rfl) (wpOp_step rfl (fun KK hKK => ?_))
                    have HKK := Lib.hid hKK
                    clear hKK
                    go_simp
                    refine HKK.out _ _ ⟨HX7.out, ?_⟩
                    clear HKK KK
                    (try simp only [Act.put, List.setIfInBounds_toArray, List.set_cons_zero, List.set_cons_succ])
                    refine one_readyH (i := 10) (by kernel_rfl) (wpOp_step rfl (fun KK hKK => ?_))
                    have HKK := Lib.hid hKK
                    clear hKK
                    go_simp
                    refine HKK.out _ _ ⟨HX7.out, ?_⟩
                    clear HKK KK
                    (try simp only [Act.put, List.setIfInBounds_toArray, List.set_cons_zero, List.set_cons_succ])
                    refine one_readyH (i := 11) (by kernel_rfl) (wpOp_step rfl (fun KK hKK => ?_))
                    have HKK := Lib.hid hKK
                    clear hKK
                    have z0 := cellH hR7 0
                    have zf := freeH hR7 0
                    simp at z0
                    go_simp
                    refine HKK.out _ _ ⟨HF8.out.line, ?_⟩
                    clear HKK KK z0 zf hR7
                    refine wpAnyH_done (by kernel_rfl) ?_ _
                    refine NoPanic.normal ?_
                    go_wp2_with fail
                    go_meet
                    exact ⟨rfl, _, _, HF8⟩
                  · skip
                    have HKK := Lib.hid hKK
                    clear hKK
                    go_simp
                    refine HKK.out _ _ ⟨HF6.out.line, ?_⟩
                    clear HKK KK
                    (try simp only [Act.put, List.setIfInBounds_toArray, List.set_cons_zero, List.set_cons_succ])
                    refine one_readyH (i := 4) (by kernel_rfl) (wpOp_step rfl (fun KK hKK => ?_))
                    have HKK := Lib.hid hKK
                    clear hKK
                    have z0 := cellH HF6.out.row 0
                    simp at z0
                    go_simp
                    refine HKK.out _ _ ⟨HF6.out.line, ?_⟩
                    clear HKK KK z0
                    (try simp only [Act.put, List.setIfInBounds_toArray, List.set_cons_zero, List.set_cons_succ])
                    refine one_readyH (i := 8) (by kernel_rfl) (wpOp_step rfl (fun KK hKK => ?_))
                    have HKK := Lib.hid hKK
                    clear hKK
                    refine step_append_own _ rfl (.tmp 104) (.tmp 107) 23 rfl w0.heap.size 47 i5 _ 7 80 Tryz.underlying23 hi5 hv0 hv1 hv2 rfl (by omega) _ _ _ rfl HF6.out.tasks ⟨W5.heap.size, 0, none⟩ 1 1 [.string x.name, .slice none 0 0, .int .i64 x.retry, .int .i64 x.time, .int .i64 x.need, .int .i64 x.lv, .int .u16 x.st] rfl rfl HNW.out (by simp [Value.oneCell']) (by unfold maxLen; omega) (by omega) hbase ?_
                    intro v7 W7 hown7 hg7 _
                    obtain ⟨B7, d7, rfl⟩ := own_slc hown7
                    have hR7 := (grow_set (j := 0) (u := .nilIface) HF6.out.tasks hg7 HF6.out.row (by decide)).1
                    have hX7 : W7.heap[w3.heap.size + 1]? = some (.cells (lmC (kindB g) w3.heap.size x (.slice A9 x.after.length c9)) 123 (0, 0)) := (hg7.block _ (Array.getElem?_eq_some_iff.1 HF6.out.line).1 (fun e => by
                      obtain ⟨_, cur', h2⟩ := own_tag HF6.out.tasks e.symm
                      exact absurd (tag_ne HF6.out.line h2) (by decide))).trans HF6.out.line
                    have HF8 := Lib.hid (HF6.out.task (y := x) hg7 hown7)
                    have HX7 := Lib.hid hX7
                    refine HKK.out _ _ ⟨hX7, ?_⟩
                    clear HKK KK hX7 hown7 hg7 HNW hbase HF6 HF5
                    (try simp only [Act.put, List.setIfInBounds_toArray])
                    refine one_readyH (i := 9) (by kernel_rfl) (wpOp_step rfl (fun KK hKK => ?_))
                    have HKK := Lib.hid hKK
                    clear hKK
                    go_simp
                    refine HKK.out _ _ ⟨HX7.out, ?_⟩
                    clear HKK KK
                    (try simp only [Act.put, List.setIfInBounds_toArray, List.set_cons_zero, List.set_cons_succ])
                    refine one_readyH (i := 10) (by kernel_rfl) (wpOp_step rfl (fun KK hKK => ?_))
                    have HKK := Lib.hid hKK
                    clear hKK
                    go_simp
                    refine HKK.out _ _ ⟨HX7.out, ?_⟩
                    clear HKK KK
                    (try simp only [Act.put, List.setIfInBounds_toArray, List.set_cons_zero, List.set_cons_succ])
                    refine one_readyH (i := 11) (by kernel_rfl) (wpOp_step rfl (fun KK hKK => ?_))
                    have HKK := Lib.hid hKK
                    clear hKK
                    have z0 := cellH hR7 0
                    have zf := freeH hR7 0
                    simp at z0
                    go_simp
                    refine HKK.out _ _ ⟨HF8.out.line, ?_⟩
                    clear HKK KK z0 zf hR7
                    refine wpAnyH_done (by kernel_rfl) ?_ _
                    refine NoPanic.normal ?_
                    go_wp2_with fail
                    go_meet
                    exact ⟨rfl, _, _, HF8⟩
                case rest =>
                obtain ⟨rfl, B7, d7, HF7⟩ := hcut
                clear HF4
                obtain ⟨B8o, d8o, eav⟩ := own_slc HF7.out.after
                subst eav
                have HVL := Lib.hid (show vs.length = xs.length by have := HF7.out.after.1; omega)
                go_upto_region 24 with fail
                go_cut [111] from 111 to 121 (fun e wx => e = .pointer (some ⟨R, 0, none⟩) ∧ ∃ B8 d8, Hid (LfS w0 R P w.heap.size (w3.heap.size + 1) w3.heap.size wq.heap.size (xs ++ [x]) (xs.map (·.name) ++ [bt]) (xs ++ [x]) (.slice B7 (xs.length + 1) d7) (.slice B8 (xs.length + 1) d8) (vs ++ [.slice A9 x.after.length c9]) (kindB g) x A9 c9 wx))
                case first =>
                  obtain ⟨i5, hi5, hv0, hv1, hv2⟩ := info_all info_words
                  have HF5 := Lib.hid (HF7.out.later (Below.refl _ _).drew)
                  refine wp_region_noPanic ?_
                  refine wp_region_held_drew (S := fun W' => W'.heap[w3.heap.size + 1]? = some (.cells (lmC (kindB g) w3.heap.size x (.slice A9 x.after.length c9)) 123 (0, 0))) (by kernel_rfl) (by exact HF5.out.line) (fun hHeld => ?_)
                  refine take_yes 0 111 (v := ?_) rfl rfl (by kernel_rfl) (by kernel_rfl) (by kernel_rfl) noPanic_any (by rfl) hHeld ?_ ?_
                  rotate_left
                  · intro wx hSw; (try dsimp only at hSw); go_simp <;> with_reducible rfl
                  simp only [Act.put, List.setIfInBounds_toArray, List.set_cons_zero, List.set_cons_succ]
                  refine take_yes 1 112 (v := ?_) rfl rfl (by kernel_rfl) (by kernel_rfl) (by kernel_rfl) noPanic_any (by rfl) hHeld ?_ ?_
                  rotate_left
                  · intro wx hSw; (try dsimp only at hSw); go_simp <;> with_reducible rfl
                  simp only [Act.put, List.setIfInBounds_toArray, List.set_cons_zero, List.set_cons_succ]
                  refine take_yes 2 113 (v := ?_) rfl rfl (by kernel_rfl) (by kernel_rfl) (by kernel_rfl) noPanic_any (by rfl) hHeld ?_ ?_
                  rotate_left
                  · intro wx hSw; (try dsimp only at hSw); go_simp <;> with_reducible rfl
                  simp only [Act.put, List.setIfInBounds_toArray, List.set_cons_zero, List.set_cons_succ]
                  refine take_yes 3 114 (v := ?_) rfl rfl (by kernel_rfl) (by kernel_rfl) (by kernel_rfl) noPanic_any (by rfl) hHeld ?_ ?_
                  rotate_left
                  · intro wx hSw; (try dsimp only at hSw); go_simp <;> with_reducible rfl
                  simp only [Act.put, List.setIfInBounds_toArray, List.set_cons_zero, List.set_cons_succ]
                  refine take_yes 5 116 (v := ?_) rfl rfl (by kernel_rfl) (by kernel_rfl) (by kernel_rfl) noPanic_any (by rfl) hHeld ?_ ?_
                  rotate_left
                  · intro wx hSw; (try dsimp only at hSw); go_simp <;> with_reducible rfl
                  simp only [Act.put, List.setIfInBounds_toArray, List.set_cons_zero, List.set_cons_succ]
                  refine take_yes 6 117 (v := ?_) rfl rfl (by kernel_rfl) (by kernel_rfl) (by kernel_rfl) noPanic_any (by rfl) hHeld ?_ ?_
                  rotate_left
                  · intro wx hSw; (try dsimp only at hSw); have y9 := cellH hSw 9; simp [lmC] at y9; go_simp <;> with_reducible rfl
                  simp only [Act.put, List.setIfInBounds_toArray, List.set_cons_zero, List.set_cons_succ]
                  generalize wc.drew = W5 at *
                  have hb6 := (Below.refl W5.heap.size W5).alloc (Nat.le_refl _) (.cells #[.slice A9 x.after.length c9] 82)
                  have HF6 := Lib.hid (HF5.out.later hb6)
                  have HNW := Lib.hid (cells_new W5 [.slice A9 x.after.length c9] 82)
                  have hbase : w0.heap.size ≤ (W5.alloc (.cells #[.slice A9 x.after.length c9] 82)).heap.size := HF6.out.low.size
                  have h8' := H8.out
                  clear hb6 hHeld
                  refine two_readyH (i := 4) (j := 7) (by kernel_rfl) (wpOp_step rfl (fun KK hKK => ?_)) (wpOp_step rfl (fun KK hKK => ?_))
                  · skip
                    have HKK := Lib.hid hKK
                    clear hKK
                    have z0 := cellH HF5.out.row 2
                    simp at z0
                    go_simp
                    refine HKK.out _ _ ⟨HF5.out.line, ?_⟩
                    clear HKK KK z0
                    (try simp only [Act.put, List.setIfInBounds_toArray, List.set_cons_zero, List.set_cons_succ])
                    refine one_readyH (i := 7) (by kernel_rfl) (wpOp_step rfl (fun KK hKK => ?_))
                    have HKK := Lib.hid hKK
                    clear hKK
                    go_simp
                    refine HKK.out _ _ ⟨HF6.out.line, ?_⟩
                    clear HKK KK
                    (try simp only [Act.put, List.setIfInBounds_toArray, List.set_cons_zero, List.set_cons_succ])
                    refine one_readyH (i := 8) (by kernel_rfl) (wpOp_step rfl (fun KK hKK => ?_))
                    have HKK := Lib.hid hKK
                    clear hKK
                    refine step_append_own _ rfl (.tmp 115) (.tmp 118) 49 rfl w0.heap.size 82 i5 _ 1 24 Tryz.underlying49 hi5 hv0 hv1 hv2 rfl (by omega) _ _ _ rfl HF6.out.after ⟨W5.heap.size, 0, none⟩ 1 1 [.slice A9 x.after.length c9] rfl rfl HNW.out (by simp [Value.oneCell']) (by unfold maxLen; omega) (by omega) hbase ?_
                    intro v7 W7 hown7 hg7 _
                    obtain ⟨B7, d7, rfl⟩ := own_slc hown7
                    have hR7 := (grow_set (j := 0) (u := .nilIface) HF6.out.after hg7 HF6.out.row (by decide)).1
                    have hX7 : W7.heap[w3.heap.size + 1]? = some (.cells (lmC (kindB g) w3.heap.size x (.slice A9 x.after.length c9)) 123 (0, 0)) := (hg7.block _ (Array.getElem?_eq_some_iff.1 HF6.out.line).1 (fun e => by
                      obtain ⟨_, cur', h2⟩ := own_tag HF6.out.after e.symm
                      exact absurd (tag_ne HF6.out.line h2) (by decide))).trans HF6.out.line
                    have HF8 := Lib.hid (HF6.out.nms HVL.out hg7 hown7)
                    have HX7 := Lib.hid hX7
                    refine HKK.out _ _ ⟨hX7, ?_⟩
                    clear HKK KK hX7 hown7 hg7 HNW hbase HF6 HF5
                    (try simp only [Act.put, List.setIfInBounds_toArray])
                    refine one_readyH (i := 9) (by kernel_rfl) (wpOp_step rfl (fun KK hKK => ?_))
                    have HKK := Lib.hid hKK
                    clear hKK
                    go_simp
                    refine HKK.out _ _ ⟨HX7.out, ?_⟩
                    clear HKK KK
                    (try simp only [Act.put, List.setIfInBounds_toArray, List.set_cons_zero, List.set_cons_succ])
                    refine one_readyH (i := 10) (by kernel_rfl) (wpOp_step rfl (fun KK hKK => ?_))
                    have HKK := Lib.hid hKK
                    clear hKK
                    go_simp
                    refine HKK.out _ _ ⟨HX7.out, ?_⟩
                    clear HKK KK
                    (try simp only [Act.put, List.setIfInBounds_toArray, List.set_cons_zero, List.set_cons_succ])
                    refine one_readyH (i := 11) (by kernel_rfl) (wpOp_step rfl (fun KK hKK => ?_))
                    have HKK := Lib.hid hKK
                    clear hKK
                    have z0 := cellH hR7 2
                    have zf := freeH hR7 2
                    simp at z0
                    go_simp
                    refine HKK.out _ _ ⟨HF8.out.line, ?_⟩
                    clear HKK KK z0 zf hR7
                    refine wpAnyH_done (by kernel_rfl) ?_ _
                    refine NoPanic.normal ?_
                    go_wp2_with fail
                    go_meet
                    exact ⟨rfl, _, _, HF8⟩
                  · skip
                    have HKK := Lib.hid hKK
                    clear hKK
                    go_simp
                    refine HKK.out _ _ ⟨HF6.out.line, ?_⟩
                    clear HKK KK
                    (try simp only [Act.put, List.setIfInBounds_toArray, List.set_cons_zero, List.set_cons_succ])
                    refine one_readyH (i := 4) (by kernel_rfl) (wpOp_step rfl (fun KK hKK => ?_))
                    have HKK := Lib.hid hKK
                    clear hKK
                    have z0 := cellH HF6.out.row 2
                    simp at z0
                    go_simp
                    refine HKK.out _ _ ⟨HF6.out.line, ?_⟩
                    clear HKK KK z0
                    (try simp only [Act.put, List.setIfInBounds_toArray, List.set_cons_zero, List.set_cons_succ])
                    refine one_readyH (i := 8) (by kernel_rfl) (wpOp_step rfl (fun KK hKK => ?_))
                    have HKK := Lib.hid hKK
                    clear hKK
                    refine step_append_own _ rfl (.tmp 115) (.tmp 118) 49 rfl w0.heap.size 82 i5 _ 1 24 Tryz.underlying49 hi5 hv0 hv1 hv2 rfl (by omega) _ _ _ rfl HF6.out.after ⟨W5.heap.size, 0, none⟩ 1 1 [.slice A9 x.after.length c9] rfl rfl HNW.out (by simp [Value.oneCell']) (by unfold maxLen; omega) (by omega) hbase ?_
                    intro v7 W7 hown7 hg7 _
                    obtain ⟨B7, d7, rfl⟩ := own_slc hown7
                    have hR7 := (grow_set (j := 0) (u := .nilIface) HF6.out.after hg7 HF6.out.row (by decide)).1
                    have hX7 : W7.heap[w3.heap.size + 1]? = some (.cells (lmC (kindB g) w3.heap.size x (.slice A9 x.after.length c9)) 123 (0, 0)) := (hg7.block _ (Array.getElem?_eq_some_iff.1 HF6.out.line).1 (fun e => by
                      obtain ⟨_, cur', h2⟩ := own_tag HF6.out.after e.symm
                      exact absurd (tag_ne HF6.out.line h2) (by decide))).trans HF6.out.line
                    have HF8 := Lib.hid (HF6.out.nms HVL.out hg7 hown7)
                    have HX7 := Lib.hid hX7
                    refine HKK.out _ _ ⟨hX7, ?_⟩
                    clear HKK KK hX7 hown7 hg7 HNW hbase HF6 HF5
                    (try simp only [Act.put, List.setIfInBounds_toArray])
                    refine one_readyH (i := 9) (by kernel_rfl) (wpOp_step rfl (fun KK hKK => ?_))
                    have HKK := Lib.hid hKK
                    clear hKK
                    go_simp
                    refine HKK.out _ _ ⟨HX7.out, ?_⟩
                    clear HKK KK
                    (try simp only [Act.put, List.setIfInBounds_toArray, List.set_cons_zero, List.set_cons_succ])
                    refine one_readyH (i := 10) (by kernel_rfl) (wpOp_step rfl (fun KK hKK => ?_))
                    have HKK := Lib.hid hKK
                    clear hKK
                    go_simp
                    refine HKK.out _ _ ⟨HX7.out, ?_⟩
                    clear HKK KK
                    (try simp only [Act.put, List.setIfInBounds_toArray, List.set_cons_zero, List.set_cons_succ])
                    refine one_readyH (i := 11) (by kernel_rfl) (wpOp_step rfl (fun KK hKK => ?_))
                    have HKK := Lib.hid hKK
                    clear hKK
                    have z0 := cellH hR7 2
                    have zf := freeH hR7 2
                    simp at z0
                    go_simp
                    refine HKK.out _ _ ⟨HF8.out.line, ?_⟩
                    clear HKK KK z0 zf hR7
                    refine wpAnyH_done (by kernel_rfl) ?_ _
                    refine NoPanic.normal ?_
                    go_wp2_with fail
                    go_meet
                    exact ⟨rfl, _, _, HF8⟩
                case rest =>
                obtain ⟨rfl, B8, d8, HF9⟩ := hcut
                have hnm : (xs ++ [x]).map (·.name) = xs.map (·.name) ++ [bt] := by rw [List.map_append, List.map_singleton, HNAME.out]
                rw [← hnm] at HF9
                clear HF7 hnm
                have zf := freeH HF9.out.err 0
                have z0 := cellH HF9.out.err 0
                simp at z0
                go_wp2_with fail
                exact LfS.fin HF9.out HDL.out HV1.out rfl rfl
            case stop =>
              intro W hX hD
              obtain ⟨hb, f, F, hp, he, hF⟩ := hX
              have HV1 := Lib.hid (show r = .inl f by rw [HRL.out, ← HM.out, hp]; rfl)
              subst ha0
              gi_wp2
              have hne : w.heap.size ≠ wq.heap.size := by have := HS7.out; have := HS3.out; omega
              refine LfS.leave (xs := xs) he hD rfl rfl ⟨hb.trans ((Apart.put (bad := fun q => q = wq.heap.size) rfl).below (fun q hq => by have := HS7.out; have := HS3.out; omega) hb.size), ?_⟩
              rw [HV1.out]
              exact ⟨F, rfl, flt_other hF hD (fun _ _ _ e => by cases e)⟩
end
end Go.Proofs.YtcfnmjhelhdobaaGreatDoor
