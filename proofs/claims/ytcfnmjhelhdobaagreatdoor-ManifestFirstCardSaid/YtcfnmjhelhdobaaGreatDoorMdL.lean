/-
  What lies in memory while places are put for names. No conditions. link: places are put for names. Conditions: at most eight lines, each with names up to a million bytes.
-/
import Derived.Test.YtcfnmjhelhdobaaGreatDoorMdI
namespace Go.Proofs.YtcfnmjhelhdobaaGreatDoor
open Go.RowKit
open Go.Maps (Keyed IsMap has)

def mkT (x : LnP) (a : List Nat) : TkP := ⟨x.name, a, x.retry, x.time, x.need, x.lv, x.st⟩
def tkq (q : LnP × Value) : List Value := [.string q.1.name, q.2, .int .i64 q.1.retry, .int .i64 q.1.time, .int .i64 q.1.need, .int .i64 q.1.lv, .int .u16 q.1.st]
def rowL (xs : List LnP) (vl : List Value) : List Value := (xs.zip vl).flatMap tkq
theorem row0 : ∀ xs : List LnP, rowL xs (List.replicate xs.length (.slice none 0 0)) = xs.flatMap tk0
  | [] => rfl
  | x :: xs => by
    have ih := row0 xs
    unfold rowL at ih ⊢
    rw [List.length_cons, List.replicate_succ, List.zip_cons_cons, List.flatMap_cons, List.flatMap_cons, ih]
    rfl
theorem zip_set : ∀ (xs : List LnP) (vl : List Value) (i : Nat) (x : LnP) (v : Value), xs[i]? = some x → (xs.zip vl).set i (x, v) = xs.zip (vl.set i v)
  | [], _, _, _, _, h => by simp at h
  | _ :: _, [], _, _, _, _ => by simp
  | y :: xs, u :: vl, 0, x, v, h => by
    obtain rfl : y = x := by simpa using h
    rfl
  | y :: xs, u :: vl, i + 1, x, v, h => by
    have h' : xs[i]? = some x := by simpa using h
    simp [zip_set xs vl i x v h']
theorem row_at {xs : List LnP} {vl : List Value} {i : Nat} {x : LnP} {v : Value} (hx : xs[i]? = some x) (hv : vl[i]? = some v) (j : Nat) (u : Value) (hu : (tkq (x, v))[j]? = some u) : (rowL xs vl)[i * 7 + j]? = some u :=
  flat_at tkq 7 (fun _ => rfl) (xs.zip vl) i (x, v) j u (by rw [List.getElem?_zip_eq_some]; exact ⟨hx, hv⟩) hu
theorem row_setv {xs : List LnP} {vl : List Value} {i : Nat} {x : LnP} {v v' : Value} (hx : xs[i]? = some x) (hv : vl[i]? = some v) : (rowL xs vl).set (i * 7 + 1) v' = rowL xs (vl.set i v') := by
  unfold rowL
  rw [← zip_set xs vl i x v' hx]
  exact flat_set tkq 7 (fun _ => rfl) (xs.zip vl) i (x, v) (x, v') 1 v' (by rw [List.getElem?_zip_eq_some]; exact ⟨hx, hv⟩) (by omega) rfl
set_option maxRecDepth 100000 in
theorem map_look {W : World} {P q : Nat} {names : List ByteArray} (h : MapIs W P q names) {s : ByteArray} (hs : s.size ≤ 1000000) :
    (Instr.lookup 86 (.map (some P)) (.string s) true).run Tryz.prog W = .ok (.tuple #[.int .i64 ((findP names s).getD 0 : Nat), .bool (findP names s).isSome]) W := by
  obtain ⟨D, hown, hm, hh⟩ := h
  obtain ⟨h1, h2⟩ := hh s
  obtain ⟨v, ps, hrun, hv⟩ := hown.look_ok key_S Tryz.underlying86 (zeroN W) (zd := .lit (.int .i64 0)) (zp := []) (plainElem_int Tryz.underlying3 (a := 0) (WalkArith.wf_i64 (by omega))) (key_of hs)
  obtain ⟨c, rfl, hc, _⟩ := plainElem_int_inv Tryz.underlying3 hv
  have hc := congrArg Prod.fst hc
  simp only at hc
  rw [h2] at hc
  injection hc with hc
  injection hc with _ hc
  rw [hrun, h1, ← hc]
structure LkS (w0 : World) (R P lb g cap : Nat) (xs : List LnP) (av : Value) (vs : List Value) (ts : List TkP) (acc : List Nat) (vl : List Value) (W : World) : Prop where
  row : W.heap[R]? = some (.cells #[.slice (some ⟨g, 0, none⟩) xs.length cap, .map (some P), av] 88 (0, 0))
  tasks : W.ownsRow w0.heap.size 47 7 (.slice (some ⟨g, 0, none⟩) xs.length cap) xs.length (rowL xs vl)
  places : MapIs W P xs.length (xs.map (·.name))
  after : W.ownsRow w0.heap.size 82 1 av xs.length vs
  aft : ∀ (i : Nat) (y : LnP), xs[i]? = some y → ∃ A c, vs[i]? = some (.slice A y.after.length c) ∧ WdsM W A y.after
  low : Below w0.heap.size w0 W
  base : w0.heap.size ≤ R ∧ w0.heap.size ≤ P ∧ w0.heap.size ≤ lb ∧ lb ≤ W.heap.size
  len : vl.length = xs.length
  done : ∀ (j : Nat) (t : TkP), ts[j]? = some t → ∃ x B c, xs[j]? = some x ∧ t = mkT x t.after ∧ vl[j]? = some (.slice B t.after.length c) ∧ NatsRow W lb B t.after ∧ t.after.length ≤ c
  cur : ∀ v, vl[ts.length]? = some v → W.ownsRow lb 3 1 v acc.length (acc.map (fun n => Value.int .i64 (n : Nat)))
  rest : ∀ j, ts.length < j → j < xs.length → vl[j]? = some (.slice none 0 0)
section
variable {w0 W W' : World} {R P lb g cap : Nat} {xs : List LnP} {av : Value} {vs : List Value} {ts : List TkP} {acc : List Nat} {vl : List Value}
theorem LkS.later (h : LkS w0 R P lb g cap xs av vs ts acc vl W) (hb : Below W.heap.size W W') : LkS w0 R P lb g cap xs av vs ts acc vl W' := by
  refine ⟨later_at hb h.row, own_agree h.tasks (fun q _ hq => hb.block q hq), h.places.block (fun es cl hp => hb.block P (Array.getElem?_eq_some_iff.1 hp).1), own_agree h.after (fun q _ hq => hb.block q hq), fun i y hy => ?_, h.low.trans (hb.mono h.low.size), ⟨h.base.1, h.base.2.1, h.base.2.2.1, Nat.le_trans h.base.2.2.2 hb.size⟩, h.len, fun j t hj => ?_, fun v hv => own_agree (h.cur v hv) (fun q _ hq => hb.block q hq), h.rest⟩
  · obtain ⟨A, c, e, hA⟩ := h.aft i y hy
    exact ⟨A, c, e, hA.later hb⟩
  · obtain ⟨x, B, c, h1, h2, h3, h4, h5⟩ := h.done j t hj
    exact ⟨x, B, c, h1, h2, h3, h4.frame (Nat.le_refl _) (fun q cur _ hq => hb.block q (Array.getElem?_eq_some_iff.1 hq).1), h5⟩
/-- The task's place gets one more. -/
theorem LkS.app (h : LkS w0 R P lb g cap xs av vs ts acc vl W) {x : LnP} {v v' : Value} {n : Nat} (hx : xs[ts.length]? = some x) (hv : vl[ts.length]? = some v) (hg : W.grownBy W' v.ownBlock) (ho : W'.ownsRow lb 3 1 v' (acc.length + 1) (acc.map (fun n => Value.int .i64 (n : Nat)) ++ [.int .i64 n])) :
    LkS w0 R P lb g cap xs av vs ts (acc ++ [n]) (vl.set ts.length v') (W'.setCell ⟨g, ts.length * 7 + 1, none⟩ v') := by
  have hcur := h.cur v hv
  obtain ⟨hgb, curT, hgT⟩ := own_tag h.tasks (g := g) rfl
  have k1 : ∀ (b : Nat) (o : Obj), W.heap[b]? = some o → (∀ c', o ≠ .cells c' 3 (0, 0)) → W'.heap[b]? = some o := fun b o hb hn => (hg.block b (Array.getElem?_eq_some_iff.1 hb).1 (fun e => by
    obtain ⟨_, cur, h2⟩ := own_tag hcur e.symm
    rw [hb] at h2
    injection h2 with h2
    exact hn _ h2)).trans hb
  have k2 : ∀ b, b ≠ g → (W'.setCell ⟨g, ts.length * 7 + 1, none⟩ v').heap[b]? = W'.heap[b]? := fun b hb => Below.heap_setCell W' ⟨g, ts.length * 7 + 1, none⟩ v' b hb
  have ng : ∀ (b : Nat) (o : Obj), W.heap[b]? = some o → (∀ c', o ≠ .cells c' 47 (0, 0)) → b ≠ g := fun b o hb hn e => by
    rw [e, hgT] at hb
    injection hb with hb
    exact hn _ hb.symm
  have ob : ∀ (b : Nat) (o : Obj), W.heap[b]? = some o → (∀ c', o ≠ .cells c' 3 (0, 0)) → (∀ c', o ≠ .cells c' 47 (0, 0)) → (W'.setCell ⟨g, ts.length * 7 + 1, none⟩ v').heap[b]? = some o := fun b o hb h1 h2 => (k2 b (ng b o hb h2)).trans (k1 b o hb h1)
  have oc : ∀ (b : Nat) (cs : Array Value) (t : TypeId), t ≠ 3 → t ≠ 47 → W.heap[b]? = some (.cells cs t (0, 0)) → (W'.setCell ⟨g, ts.length * 7 + 1, none⟩ v').heap[b]? = W.heap[b]? := fun b cs t h1 h2 hb => (ob b _ hb (fun c' e => by injection e with _ e; exact h1 e) (fun c' e => by injection e with _ e; exact h2 e)).trans hb.symm
  have htk : W'.ownsRow w0.heap.size 47 7 (.slice (some ⟨g, 0, none⟩) xs.length cap) xs.length (rowL xs vl) := own_frame h.tasks (fun q cur _ hq => (k1 q _ hq (fun c' e => by injection e with _ e; exact absurd e (by decide))).trans hq.symm)
  have hst := (htk.stored (ts.length * 7 + 1) v').1
  rw [row_setv hx hv] at hst
  have hlk : ts.length < vl.length := (List.getElem?_eq_some_iff.1 hv).1
  refine ⟨ob _ _ h.row (fun c' e => by injection e with _ e; exact absurd e (by decide)) (fun c' e => by injection e with _ e; exact absurd e (by decide)), hst, h.places.block (fun es cl hp => (ob P _ hp (fun _ e => by cases e) (fun _ e => by cases e)).trans hp.symm), own_frame h.after (fun q cur _ hq => oc q cur _ (by decide) (by decide) hq), fun i y hy => ?_, (h.low.grown hg h.low.size (fun b e => by have := (own_tag hcur e).1; have := h.base; omega)).setCell (p := ⟨g, ts.length * 7 + 1, none⟩) hgb _, ⟨h.base.1, h.base.2.1, h.base.2.2.1, by rw [World.size_setCell]; exact Nat.le_trans h.base.2.2.2 hg.size⟩, by rw [List.length_set]; exact h.len, fun j t hj => ?_, fun u hu => ?_, fun j h1 h2 => ?_⟩
  · obtain ⟨A, c, e, hA⟩ := h.aft i y hy
    exact ⟨A, c, e, hA.frame (fun q cur hq => oc q cur _ (by decide) (by decide) hq)⟩
  · obtain ⟨x', B, c, h1, h2, h3, h4, h5⟩ := h.done j t hj
    have hjl := (List.getElem?_eq_some_iff.1 hj).1
    refine ⟨x', B, c, h1, h2, by rw [List.getElem?_set_ne (by omega)]; exact h3, h4.frame (Nat.le_refl _) (fun q cur hl hq => (k2 q (ng q _ hq (fun c' e => by injection e with _ e; exact absurd e (by decide)))).trans (hg.block q (Array.getElem?_eq_some_iff.1 hq).1 (fun e => by have := (own_tag hcur e.symm).1; omega))), h5⟩
  · rw [List.getElem?_set_self hlk] at hu
    injection hu with hu
    subst hu
    rw [List.length_append, List.map_append]
    exact own_frame ho (fun q cur _ hq => k2 q (fun e => by
      have h9 := k1 g _ hgT (fun c' e => by injection e with _ e; exact absurd e (by decide))
      rw [e, h9] at hq
      injection hq with hq
      injection hq with _ h2
      exact absurd h2 (by decide)))
  · rw [List.getElem?_set_ne (by omega)]
    exact h.rest j h1 h2
/-- A task is done. -/
theorem LkS.next (h : LkS w0 R P lb g cap xs av vs ts acc vl W) {x : LnP} (hx : xs[ts.length]? = some x) : LkS w0 R P W.heap.size g cap xs av vs (ts ++ [mkT x acc]) [] vl W := by
  have hl := (List.getElem?_eq_some_iff.1 hx).1
  have hv := List.getElem?_eq_getElem (l := vl) (i := ts.length) (by rw [h.len]; exact hl)
  obtain ⟨B, c, e, hN, hcp⟩ := nats_own (h.cur _ hv)
  refine ⟨h.row, h.tasks, h.places, h.after, h.aft, h.low, ⟨h.base.1, h.base.2.1, by have := h.base; omega, Nat.le_refl _⟩, h.len, fun j t hj => ?_, fun v hv2 => ?_, fun j h1 h2 => h.rest j (by rw [List.length_append] at h1; simp at h1; omega) h2⟩
  · by_cases hjl : j < ts.length
    · rw [List.getElem?_append_left hjl] at hj
      obtain ⟨x', B, c, h1, h2, h3, h4, h5⟩ := h.done j t hj
      exact ⟨x', B, c, h1, h2, h3, h4.frame h.base.2.2.2 (fun q cur _ hq => rfl), h5⟩
    · have hj2 : j = ts.length := by
        have := (List.getElem?_eq_some_iff.1 hj).1
        simp at this
        omega
      subst hj2
      obtain rfl : mkT x acc = t := by simpa using hj
      exact ⟨x, B, c, hx, rfl, by rw [hv, e]; rfl, hN, hcp⟩
  · rw [List.length_append, List.length_singleton] at hv2
    have h2 := (List.getElem?_eq_some_iff.1 hv2).1
    rw [h.len] at h2
    rw [h.rest _ (by omega) h2] at hv2
    injection hv2 with hv2
    subst hv2
    exact World.ownsRow_nil _ _ _ _
theorem LkS.tks (h : LkS w0 R P lb g cap xs av vs ts acc vl W) : TksAt W (some ⟨g, 0, none⟩) ts := fun _ => by
  refine ⟨_, rfl, fun i t ht => ?_⟩
  obtain ⟨x, B, c, h1, h2, h3, h4, h5⟩ := h.done i t ht
  refine ⟨B, c, fun j v hj => h.tasks.cells (g := g) rfl _ _ (row_at h1 h3 j v ?_), h4.nats, h5⟩
  rw [h2] at hj
  exact hj
theorem LkS.start {tv : Value} (h : RdM w0 R P xs tv av vs W) (hne : xs ≠ []) : ∃ g cap, tv = .slice (some ⟨g, 0, none⟩) xs.length cap ∧ LkS w0 R P W.heap.size g cap xs av vs [] [] (List.replicate xs.length (.slice none 0 0)) W := by
  rcases h.tasks.2 with ⟨_, h0⟩ | ⟨g, cap, cur, e, _⟩
  · exact absurd (List.eq_nil_of_length_eq_zero h0) hne
  · subst e
    refine ⟨g, cap, rfl, h.row, by rw [row0]; exact h.tasks, h.places, h.after, h.aft, h.low, ⟨h.base.1, h.base.2, h.low.size, Nat.le_refl _⟩, by simp, fun j t hj => by simp at hj, fun v hv => ?_, fun j _ h2 => by rw [List.getElem?_replicate, if_pos h2]⟩
    rw [List.getElem?_replicate] at hv
    split at hv
    · injection hv with hv
      subst hv
      exact World.ownsRow_nil _ _ _ _
    · cases hv
end
end Go.Proofs.YtcfnmjhelhdobaaGreatDoor

namespace Go.Proofs.YtcfnmjhelhdobaaGreatDoor
open Go.RowKit
open Go.Maps (Keyed IsMap has)

theorem value_aft {x x' : LnP} {word : ByteArray} {w : Wd} (hx : ∀ y ∈ x.after, y.t.size ≤ 8) (h : valueP x word w = .inr x') : ∀ y ∈ x'.after, y.t.size ≤ 8 := by
  unfold valueP at h
  split at h
  · split at h
    · cases h
    · rename_i l hl
      split at h
      · cases h
      · injection h with h
        rw [← h]
        exact names_ok (t := w.t) (p := w.p) hl
  · split at h
    · split at h
      · cases h
      · injection h with h; rw [← h]; exact hx
    · split at h
      · split at h
        · cases h
        · injection h with h; rw [← h]; exact hx
      · split at h
        · split at h
          · cases h
          · injection h with h; rw [← h]; exact hx
        · split at h
          · split at h
            · cases h
            · injection h with h; rw [← h]; exact hx
          · injection h with h; rw [← h]; exact hx
theorem mpairs_aft {g : Bool} : ∀ (l : List Wd) (seen : List ByteArray) (x : LnP) (y : LnP × List ByteArray), (∀ z ∈ x.after, z.t.size ≤ 8) → pairsP g seen x l = .inr y → ∀ z ∈ y.1.after, z.t.size ≤ 8
  | [], seen, x, y, hx, h => by
    rw [pairsP] at h
    injection h with h
    rw [← h]
    exact hx
  | [a], seen, x, y, hx, h => by
    rw [pairsP] at h
    split at h
    · cases h
    · split at h <;> cases h
  | a :: b :: r, seen, x, y, hx, h => by
    rw [pairsP] at h
    split at h
    · cases h
    · split at h
      · cases h
      · split at h
        · cases h
        · rename_i x' hx'
          exact mpairs_aft r _ _ y (value_aft hx hx') h
theorem line_aft {l : List Wd} {names : List ByteArray} {x : LnP} (h : lineP l names = .inr x) : ∀ y ∈ x.after, y.t.size ≤ 8 := by
  unfold lineP at h
  dsimp only at h
  split at h
  · cases h
  · split at h
    · cases h
    · split at h
      · cases h
      · split at h
        · cases h
        · split at h
          · cases h
          · split at h
            · cases h
            · rename_i x' seen hp
              split at h
              · cases h
              · injection h with h
                subst h
                exact mpairs_aft _ _ _ _ (fun y hy => by simp [ln0] at hy) hp
/-- The tasks stay over stores into other kinds of blocks. -/
theorem LkS.tksE {w0 W W' : World} {R P lb g cap : Nat} {xs : List LnP} {av : Value} {vs : List Value} {ts : List TkP} {acc : List Nat} {vl : List Value} (h : LkS w0 R P lb g cap xs av vs ts acc vl W) (hf : ∀ (b : Nat) (cs : Array Value) (t : TypeId), t ≠ 25 → W.heap[b]? = some (.cells cs t (0, 0)) → W'.heap[b]? = W.heap[b]?) : TksAt W' (some ⟨g, 0, none⟩) ts := fun _ => by
  have ht := own_frame h.tasks (fun q cur _ hq => hf q cur _ (by decide) hq)
  refine ⟨_, rfl, fun i t hi => ?_⟩
  obtain ⟨x, B, c, h1, h2, h3, h4, h5⟩ := h.done i t hi
  refine ⟨B, c, fun j v hj => ht.cells (g := g) rfl _ _ (row_at h1 h3 j v ?_), (h4.frame (Nat.le_refl _) (fun q cur _ hq => hf q cur _ (by decide) hq)).nats, h5⟩
  rw [h2] at hj
  exact hj
/-- What link answers. -/
def LkO (w0 : World) (R P : Nat) (xs : List LnP) (av : Value) (vs : List Value) (r : FaP ⊕ List TkP) (e : Ending) (w' : World) : Prop := Below w0.heap.size w0 w' ∧ match r with
  | .inl f => ∃ F, e = .returned (fltV F) ∧ FaultAt w' F f.p f.e
  | .inr ts => e = .returned .nilIface ∧ ts.length = xs.length ∧ ∃ g cap lb vl, LkS w0 R P lb g cap xs av vs ts [] vl w'
section
variable {w0 w : World} {R P : Nat} {xs : List LnP} {tv av : Value} {vs : List Value}
set_option maxHeartbeats 8000000 in
set_option maxRecDepth 100000 in
theorem link_is (hR : RdM w0 R P xs tv av vs w) (hne : xs ≠ []) (h8 : xs.length ≤ 8) (hsz : ∀ x ∈ xs, x.after.length ≤ 1000001 ∧ ∀ y ∈ x.after, y.t.size ≤ 8) (r : FaP ⊕ List TkP) (hr : r = tasksP (xs.map (·.name)) [] xs) :
    Calls Tryz.prog 39 #[.pointer (some ⟨R, 0, none⟩)] w (LkO w0 R P xs av vs r) := by
  obtain ⟨g, cap, rfl, h0⟩ := LkS.start hR hne
  obtain ⟨B1, d1, rfl⟩ := own_slc hR.after
  obtain ⟨ns, hns⟩ : ∃ ns, ns = xs.map (·.name) := ⟨_, rfl⟩
  have H0 := Lib.hid h0
  have HNS := Lib.hid hns
  have H8 := Lib.hid h8
  have HSZ := Lib.hid hsz
  have HR0 := Lib.hid (show r = tasksP ns [] (xs.drop 0) by rw [hns]; exact hr)
  have x2 := cellH h0.row 2
  simp at x2
  clear hR hne h8 hsz hr h0 hns
  go_enter Tryz.func39, Tryz.ntmps39
  go_wp2_with fail
  clear x2
  go_loopw [14] (fun i wr => ∃ (k lb : Nat) (ts : List TkP) (vl : List Value), i = .int .i64 k ∧ k ≤ xs.length ∧ Hid (ts.length = k) ∧ Hid (r = tasksP ns ts (xs.drop k)) ∧ Hid (LkS w0 R P lb g cap xs (.slice B1 xs.length d1) vs ts [] vl wr)) (fun i _ => xs.length - (intOf i).toNat)
  case atStart => exact ⟨0, _, [], _, rfl, Nat.zero_le _, rfl, HR0, H0⟩
  case round =>
    obtain ⟨k, lb, ts, vl, rfl, hk, HTL, HRK, HK⟩ := hrel
    by_cases hlt : k < xs.length
    · obtain ⟨x, hx⟩ : ∃ x, xs[k]? = some x := ⟨_, List.getElem?_eq_getElem hlt⟩
      obtain ⟨A1, c1, hvs, hA1⟩ := HK.out.aft k x hx
      obtain ⟨ga, capa, cura, eB, _, hqa, _, _, _, hta⟩ : ∃ g' cap' cur, (Value.slice B1 xs.length d1) = .slice (some ⟨g', 0, none⟩) xs.length cap' ∧ w0.heap.size ≤ g' ∧ wr.heap[g']? = some (.cells cur 82 (0, 0)) ∧ xs.length ≤ cap' ∧ cap' ≤ maxLen ∧ cur.size = cap' * 1 ∧ cur.toList.take (xs.length * 1) = vs := by
        rcases HK.out.after.2 with ⟨_, h0⟩ | h
        · omega
        · exact h
      injection eB with eB1 _ eB2
      have z1 := HK.out.after.cells (g := ga) (by rw [eB1]; rfl) k _ hvs
      have hadd : (⟨ga, 0, none⟩ : Addr).add k = ⟨ga, k, none⟩ := by unfold Addr.add; split <;> simp_all
      have z2 : wr.cell? ⟨ga, k, none⟩ = some (.slice A1 x.after.length c1) := by rw [← hadd]; exact z1
      have hk0 : (0 : Int) ≤ (k : Int) := by omega
      have hkl : (k : Int) < (xs.length : Int) := by omega
      obtain ⟨hxl, hxs⟩ := HSZ.out x (List.mem_of_getElem? hx)
      have HX := Lib.hid hx
      have HXS := Lib.hid hxs
      have HXL := Lib.hid hxl
      have HVS := Lib.hid hvs
      subst eB1
      clear hx hvs hA1 hqa hta hxl hxs hadd eB2
      go_wp2_with fail
      go_loopw [21] (fun i wo => ∃ (j : Nat) (acc : List Nat) (vl2 : List Value), i = .int .i64 j ∧ j ≤ x.after.length ∧ Hid (acc.length = j) ∧ Hid (placesP ns [] x.after = placesP ns acc (x.after.drop j)) ∧ Hid (LkS w0 R P lb g cap xs (.slice (some ⟨ga, 0, none⟩) xs.length d1) vs ts acc vl2 wo)) (fun i _ => x.after.length - (intOf i).toNat)
      case atStart => exact ⟨0, [], vl, rfl, Nat.zero_le _, rfl, rfl, HK⟩
      case round =>
        obtain ⟨j, acc, vl2, rfl, hj, HAL, HPJ, HK2⟩ := hrel
        clear z2 z1
        by_cases hltj : j < x.after.length
        · obtain ⟨y, hy⟩ : ∃ y, x.after[j]? = some y := ⟨_, List.getElem?_eq_getElem hltj⟩
          obtain ⟨A2, c2, hv2, hA2⟩ := HK2.out.aft k x HX.out
          obtain rfl : A2 = A1 := by
            rw [HVS.out] at hv2
            injection hv2 with hv2
            injection hv2 with h _ _
            exact h.symm
          obtain ⟨ad, rfl, a0, a1⟩ := hA2.wds.at_ hy
          have hadb : (ad.add (j * 2)).block < wr.heap.size := World.block_lt_of_cell? wr _ a0
          have hj0 : (0 : Int) ≤ (j : Int) := by omega
          have hjl : (j : Int) < (x.after.length : Int) := by omega
          have hys := HXS.out y (List.mem_of_getElem? hy)
          have b1 := (Below.refl wr.heap.size wr).alloc (Nat.le_refl _) (.cells #[.string y.t, .int .i64 y.p] 81)
          have HC := Lib.hid (made_at wr (.cells #[.string y.t, .int .i64 y.p] 81))
          have HK3 := Lib.hid (HK2.out.later b1)
          have HDJ := Lib.hid (show x.after.drop j = y :: x.after.drop (j + 1) from drop_any hy)
          have HLJ := Lib.hid hltj
          clear b1 hA2 hv2 hy HK2
          go_upto_region 7 with fail
          generalize hW3 : (wr.alloc (.cells #[.string y.t, .int .i64 y.p] 81)) = W3 at *
          clear hW3 a0 a1 hadb
          have hlk := map_look HK3.out.places (s := y.t) (by omega)
          obtain ⟨fo, hfo⟩ : ∃ fo, fo = findP ns y.t := ⟨_, rfl⟩
          rw [← HNS.out, ← hfo] at hlk
          have HFO := Lib.hid hfo
          have HK4 := Lib.hid (HK3.out.later (Below.refl _ _).drew)
          have HC4 := Lib.hid (show W3.drew.heap[wr.heap.size]? = _ from HC.out)
          have HLK := Lib.hid (show (Instr.lookup 86 (.map (some P)) (.string y.t) true).run Tryz.prog W3.drew = .ok (.tuple #[.int .i64 (fo.getD 0 : Nat), .bool fo.isSome]) W3.drew by
            have h2 := map_look HK4.out.places (s := y.t) (by omega)
            rw [← HNS.out, ← hfo] at h2
            exact h2)
          clear hlk hfo HK3 HC
          refine wp_region_kept (fun W' => W' = W3.drew) (by kernel_rfl) (by kernel_rfl) rfl ?_
          intro hne
          have f0 : ∀ q : HeldW (fun W' => W' = W3.drew), q.w.cell? ⟨R, 1, none⟩ = some (.map (some P)) := fun q => by
            rw [q.ok]
            have := cellH HK4.out.row 1
            simpa using this
          have f1 : ∀ q : HeldW (fun W' => W' = W3.drew), q.w.cell? ⟨wr.heap.size, 0, none⟩ = some (.string y.t) := fun q => by
            rw [q.ok]
            have := cellH HC4.out 0
            simpa using this
          have f2 : ∀ q : HeldW (fun W' => W' = W3.drew), (Instr.lookup 86 (.map (some P)) (.string y.t) true).run Tryz.prog q.w = .ok (.tuple #[.int .i64 (fo.getD 0 : Nat), .bool fo.isSome]) q.w := fun q => by
            rw [q.ok]
            exact HLK.out
          repeat (go_big_quiet_step (fail))
          refine wpQuiet_nil ?_
          rintro W4 ⟨⟨W4, hS4⟩, rfl⟩
          subst hS4
          clear f0 f1 f2 hne HLK
          generalize W3.drew = W4 at *
          cases fo with
          | none =>
            have HF := Lib.hid (fun W : World => mfault_is W y.p 6)
            have HV1 := Lib.hid (show r = .inl ⟨6, y.p⟩ by
              rw [HRK.out, drop_any HX.out]
              exact tasks_bad (by rw [HPJ.out, HDJ.out]; exact places_bad HFO.out.symm))
            have y1 := cellH HC4.out 1
            simp at y1
            simp only [Option.isSome_none, Option.getD_none]
            go_wp2_with fail
            refine (HF.out _).mono ?_
            rintro e w5 ⟨F, rfl, hF, _, hb5⟩
            have HB5 := Lib.hid (HK4.out.later hb5).low
            have HFA := Lib.hid hF
            clear hF hb5 y1
            unfold fltV
            go_wp2_with fail
            go_ret
            refine ⟨HB5.out, ?_⟩
            rw [HV1.out]
            exact ⟨F, rfl, HFA.out⟩
          | some pl =>
            have HPL := Lib.hid (show placesP ns [] x.after = placesP ns (acc ++ [pl]) (x.after.drop (j + 1)) by rw [HPJ.out, HDJ.out]; exact places_good HFO.out.symm)
            simp only [Option.isSome_some, Option.getD_some]
            clear HC4 HDJ HPJ
            go_upto_region 10 with fail
            have hjj := HAL.out
            have hxl' := HXL.out
            have h8' := H8.out
            have HAL2 := Lib.hid (show (acc ++ [pl]).length = j + 1 by rw [List.length_append, hjj]; rfl)
            obtain ⟨i5, hi5, hv0, hv1, hv2⟩ := info_all info_int
            have HK5 := Lib.hid (HK4.out.later (Below.refl _ _).drew)
            have htl := HTL.out
            obtain ⟨v, hv⟩ : ∃ v, vl2[ts.length]? = some v := ⟨_, List.getElem?_eq_getElem (by rw [HK5.out.len]; omega)⟩
            have hcur := HK5.out.cur v hv
            obtain ⟨B3, d3, rfl⟩ := own_slc hcur
            have hz := HK5.out.tasks.cells (g := g) rfl _ _ (row_at (show xs[ts.length]? = some x by rw [htl]; exact HX.out) hv 1 _ rfl)
            have hadd : (⟨g, 0, none⟩ : Addr).add (ts.length * 7 + 1) = ⟨g, ts.length * 7 + 1, none⟩ := by unfold Addr.add; split <;> simp_all
            rw [hadd, htl] at hz
            rw [hjj] at hz hv hcur
            have HZ := Lib.hid hz
            have HVV := Lib.hid hv
            have HCU := Lib.hid hcur
            clear hz hv hcur hadd
            refine wp_region_noPanic ?_
            refine wp_region_held_drew (S := fun W' => W'.heap[R]? = some (.cells #[.slice (some ⟨g, 0, none⟩) xs.length cap, .map (some P), .slice (some ⟨ga, 0, none⟩) xs.length d1] 88 (0, 0))) (by kernel_rfl) (by exact HK5.out.row) (fun hHeld => ?_)
            refine take_yes 0 40 (v := ?_) rfl rfl (by kernel_rfl) (by kernel_rfl) (by kernel_rfl) noPanic_any (by rfl) hHeld ?_ ?_
            rotate_left
            · intro wx hSw; (try dsimp only at hSw); go_simp <;> with_reducible rfl
            simp only [Act.put, List.setIfInBounds_toArray, List.set_cons_zero, List.set_cons_succ]
            refine take_yes 1 41 (v := ?_) rfl rfl (by kernel_rfl) (by kernel_rfl) (by kernel_rfl) noPanic_any (by rfl) hHeld ?_ ?_
            rotate_left
            · intro wx hSw; (try dsimp only at hSw); go_simp <;> with_reducible rfl
            simp only [Act.put, List.setIfInBounds_toArray, List.set_cons_zero, List.set_cons_succ]
            refine take_yes 2 42 (v := ?_) rfl rfl (by kernel_rfl) (by kernel_rfl) (by kernel_rfl) noPanic_any (by rfl) hHeld ?_ ?_
            rotate_left
            · intro wx hSw; (try dsimp only at hSw); go_simp <;> with_reducible rfl
            simp only [Act.put, List.setIfInBounds_toArray, List.set_cons_zero, List.set_cons_succ]
            refine take_yes 3 43 (v := ?_) rfl rfl (by kernel_rfl) (by kernel_rfl) (by kernel_rfl) noPanic_any (by rfl) hHeld ?_ ?_
            rotate_left
            · intro wx hSw; (try dsimp only at hSw); have y0 := cellH hSw 0; simp at y0; go_simp <;> with_reducible rfl
            simp only [Act.put, List.setIfInBounds_toArray, List.set_cons_zero, List.set_cons_succ]
            refine take_yes 4 44 (v := ?_) rfl rfl (by kernel_rfl) (by kernel_rfl) (by kernel_rfl) noPanic_any (by rfl) hHeld ?_ ?_
            rotate_left
            · intro wx hSw; (try dsimp only at hSw); go_simp <;> with_reducible rfl
            simp only [Act.put, List.setIfInBounds_toArray, List.set_cons_zero, List.set_cons_succ]
            refine take_yes 5 45 (v := ?_) rfl rfl (by kernel_rfl) (by kernel_rfl) (by kernel_rfl) noPanic_any (by rfl) hHeld ?_ ?_
            rotate_left
            · intro wx hSw; (try dsimp only at hSw); go_simp <;> with_reducible rfl
            simp only [Act.put, List.setIfInBounds_toArray, List.set_cons_zero, List.set_cons_succ]
            refine take_yes 6 46 (v := ?_) rfl rfl (by kernel_rfl) (by kernel_rfl) (by kernel_rfl) noPanic_any (by rfl) hHeld ?_ ?_
            rotate_left
            · intro wx hSw; (try dsimp only at hSw); go_simp <;> with_reducible rfl
            simp only [Act.put, List.setIfInBounds_toArray, List.set_cons_zero, List.set_cons_succ]
            refine take_yes 7 47 (v := ?_) rfl rfl (by kernel_rfl) (by kernel_rfl) (by kernel_rfl) noPanic_any (by rfl) hHeld ?_ ?_
            rotate_left
            · intro wx hSw; (try dsimp only at hSw); go_simp <;> with_reducible rfl
            simp only [Act.put, List.setIfInBounds_toArray, List.set_cons_zero, List.set_cons_succ]
            refine take_yes 8 48 (v := ?_) rfl rfl (by kernel_rfl) (by kernel_rfl) (by kernel_rfl) noPanic_any (by rfl) hHeld ?_ ?_
            rotate_left
            · intro wx hSw; (try dsimp only at hSw); have y0 := cellH hSw 0; simp at y0; go_simp <;> with_reducible rfl
            simp only [Act.put, List.setIfInBounds_toArray, List.set_cons_zero, List.set_cons_succ]
            refine take_yes 9 49 (v := ?_) rfl rfl (by kernel_rfl) (by kernel_rfl) (by kernel_rfl) noPanic_any (by rfl) hHeld ?_ ?_
            rotate_left
            · intro wx hSw; (try dsimp only at hSw); go_simp <;> with_reducible rfl
            simp only [Act.put, List.setIfInBounds_toArray, List.set_cons_zero, List.set_cons_succ]
            refine take_yes 10 50 (v := ?_) rfl rfl (by kernel_rfl) (by kernel_rfl) (by kernel_rfl) noPanic_any (by rfl) hHeld ?_ ?_
            rotate_left
            · intro wx hSw; (try dsimp only at hSw); go_simp <;> with_reducible rfl
            simp only [Act.put, List.setIfInBounds_toArray, List.set_cons_zero, List.set_cons_succ]
            refine take_yes 11 51 (v := ?_) rfl rfl (by kernel_rfl) (by kernel_rfl) (by kernel_rfl) noPanic_any (by rfl) hHeld ?_ ?_
            rotate_left
            · intro wx hSw; (try dsimp only at hSw); go_simp <;> with_reducible rfl
            simp only [Act.put, List.setIfInBounds_toArray, List.set_cons_zero, List.set_cons_succ]
            refine take_yes 13 53 (v := ?_) rfl rfl (by kernel_rfl) (by kernel_rfl) (by kernel_rfl) noPanic_any (by rfl) hHeld ?_ ?_
            rotate_left
            · intro wx hSw; (try dsimp only at hSw); go_simp <;> with_reducible rfl
            simp only [Act.put, List.setIfInBounds_toArray, List.set_cons_zero, List.set_cons_succ]
            generalize W4.drew = W5 at *
            have hb6 := (Below.refl W5.heap.size W5).alloc (Nat.le_refl _) (.cells #[.int .i64 pl] 3)
            have HK6 := Lib.hid (HK5.out.later hb6)
            have HCU6 := Lib.hid (own_agree HCU.out (fun q _ hq => hb6.block q hq))
            have HZ6 := Lib.hid (cell_later hb6 HZ.out)
            have HNW := Lib.hid (cells_new W5 [.int .i64 pl] 3)
            have hbase : lb ≤ (W5.alloc (.cells #[.int .i64 pl] 3)).heap.size := HK6.out.base.2.2.2
            clear hb6 hHeld
            refine two_readyH (i := 12) (j := 14) (by kernel_rfl) (wpOp_step rfl (fun KK hKK => ?_)) (wpOp_step rfl (fun KK hKK => ?_))
            · skip
              have HKK := Lib.hid hKK
              clear hKK
              have z0 := HZ.out
              go_simp
              refine HKK.out _ _ ⟨HK5.out.row, ?_⟩
              clear HKK KK z0
              (try simp only [Act.put, List.setIfInBounds_toArray, List.set_cons_zero, List.set_cons_succ])
              refine one_readyH (i := 14) (by kernel_rfl) (wpOp_step rfl (fun KK hKK => ?_))
              have HKK := Lib.hid hKK
              clear hKK
              go_simp
              refine HKK.out _ _ ⟨HK6.out.row, ?_⟩
              clear HKK KK
              (try simp only [Act.put, List.setIfInBounds_toArray, List.set_cons_zero, List.set_cons_succ])
              refine one_readyH (i := 15) (by kernel_rfl) (wpOp_step rfl (fun KK hKK => ?_))
              have HKK := Lib.hid hKK
              clear hKK
              refine step_append_own _ rfl (.tmp 52) (.tmp 54) 42 rfl lb 3 i5 _ 1 8 Tryz.underlying42 hi5 hv0 hv1 hv2 rfl (by omega) _ _ _ rfl HCU6.out ⟨W5.heap.size, 0, none⟩ 1 1 [.int .i64 pl] rfl rfl HNW.out (by simp [Value.oneCell']) (by unfold maxLen; omega) (by omega) hbase ?_
              intro v7 W7 hown7 hg7 _
              obtain ⟨B7, d7, rfl⟩ := own_slc hown7
              have hgT := (own_tag HK6.out.tasks (g := g) rfl).2
              obtain ⟨curT, hgT⟩ := hgT
              have keep7 : ∀ (b : Nat) (cs : Array Value) (t : TypeId), t ≠ 3 → (W5.alloc (.cells #[.int .i64 pl] 3)).heap[b]? = some (.cells cs t (0, 0)) → W7.heap[b]? = some (.cells cs t (0, 0)) := fun b cs t ht hb => (hg7.block b (Array.getElem?_eq_some_iff.1 hb).1 (fun e => by
                obtain ⟨_, cur', h2⟩ := own_tag HCU6.out e.symm
                exact ht (tag_ne hb h2))).trans hb
              have hR7 := keep7 _ _ _ (by decide) HK6.out.row
              have HF8 := Lib.hid (HK6.out.app (x := x) (n := pl) (by rw [HTL.out]; exact HX.out) HVV.out hg7 (by rw [hjj]; exact hown7))
              have HX7 := Lib.hid hR7
              have hz7 := (keep7 _ _ _ (by decide) hgT)
              have hrowT : ∃ u, W7.cell? ⟨g, k * 7 + 1, none⟩ = some u := by
                have h9 := HZ6.out
                rw [cellH hgT] at h9
                exact ⟨_, by rw [cellH hz7]; exact h9⟩
              obtain ⟨u7, hu7⟩ := hrowT
              have zf := freeH hz7 (k * 7 + 1)
              refine HKK.out _ _ ⟨hR7, ?_⟩
              clear HKK KK hR7 hown7 hg7 HNW hbase HK6 HK5 HCU6 HCU HZ6 HZ keep7 hgT hz7
              (try simp only [Act.put, List.setIfInBounds_toArray])
              refine one_readyH (i := 16) (by kernel_rfl) (wpOp_step rfl (fun KK hKK => ?_))
              have HKK := Lib.hid hKK
              clear hKK
              go_simp
              refine HKK.out _ _ ⟨HX7.out, ?_⟩
              clear HKK KK
              (try simp only [Act.put, List.setIfInBounds_toArray, List.set_cons_zero, List.set_cons_succ])
              refine one_readyH (i := 17) (by kernel_rfl) (wpOp_step rfl (fun KK hKK => ?_))
              have HKK := Lib.hid hKK
              clear hKK
              go_simp
              refine HKK.out _ _ ⟨HX7.out, ?_⟩
              clear HKK KK
              (try simp only [Act.put, List.setIfInBounds_toArray, List.set_cons_zero, List.set_cons_succ])
              refine one_readyH (i := 18) (by kernel_rfl) (wpOp_step rfl (fun KK hKK => ?_))
              have HKK := Lib.hid hKK
              clear hKK
              go_simp
              rw [HTL.out] at HF8
              refine HKK.out _ _ ⟨HF8.out.row, ?_⟩
              clear HKK KK hu7 zf
              refine wpAnyH_done (by kernel_rfl) ?_ _
              refine NoPanic.normal ?_
              go_wp2_with fail
              go_roundw
              case rel => exact ⟨j + 1, acc ++ [pl], _, by go_num, HLJ.out, HAL2, HPL, HF8⟩
              case measure => have := HLJ.out; simp [intOf]; omega
            · skip
              have HKK := Lib.hid hKK
              clear hKK
              go_simp
              refine HKK.out _ _ ⟨HK6.out.row, ?_⟩
              clear HKK KK
              (try simp only [Act.put, List.setIfInBounds_toArray, List.set_cons_zero, List.set_cons_succ])
              refine one_readyH (i := 12) (by kernel_rfl) (wpOp_step rfl (fun KK hKK => ?_))
              have HKK := Lib.hid hKK
              clear hKK
              have z0 := HZ6.out
              go_simp
              refine HKK.out _ _ ⟨HK6.out.row, ?_⟩
              clear HKK KK z0
              (try simp only [Act.put, List.setIfInBounds_toArray, List.set_cons_zero, List.set_cons_succ])
              refine one_readyH (i := 15) (by kernel_rfl) (wpOp_step rfl (fun KK hKK => ?_))
              have HKK := Lib.hid hKK
              clear hKK
              refine step_append_own _ rfl (.tmp 52) (.tmp 54) 42 rfl lb 3 i5 _ 1 8 Tryz.underlying42 hi5 hv0 hv1 hv2 rfl (by omega) _ _ _ rfl HCU6.out ⟨W5.heap.size, 0, none⟩ 1 1 [.int .i64 pl] rfl rfl HNW.out (by simp [Value.oneCell']) (by unfold maxLen; omega) (by omega) hbase ?_
              intro v7 W7 hown7 hg7 _
              obtain ⟨B7, d7, rfl⟩ := own_slc hown7
              have hgT := (own_tag HK6.out.tasks (g := g) rfl).2
              obtain ⟨curT, hgT⟩ := hgT
              have keep7 : ∀ (b : Nat) (cs : Array Value) (t : TypeId), t ≠ 3 → (W5.alloc (.cells #[.int .i64 pl] 3)).heap[b]? = some (.cells cs t (0, 0)) → W7.heap[b]? = some (.cells cs t (0, 0)) := fun b cs t ht hb => (hg7.block b (Array.getElem?_eq_some_iff.1 hb).1 (fun e => by
                obtain ⟨_, cur', h2⟩ := own_tag HCU6.out e.symm
                exact ht (tag_ne hb h2))).trans hb
              have hR7 := keep7 _ _ _ (by decide) HK6.out.row
              have HF8 := Lib.hid (HK6.out.app (x := x) (n := pl) (by rw [HTL.out]; exact HX.out) HVV.out hg7 (by rw [hjj]; exact hown7))
              have HX7 := Lib.hid hR7
              have hz7 := (keep7 _ _ _ (by decide) hgT)
              have hrowT : ∃ u, W7.cell? ⟨g, k * 7 + 1, none⟩ = some u := by
                have h9 := HZ6.out
                rw [cellH hgT] at h9
                exact ⟨_, by rw [cellH hz7]; exact h9⟩
              obtain ⟨u7, hu7⟩ := hrowT
              have zf := freeH hz7 (k * 7 + 1)
              refine HKK.out _ _ ⟨hR7, ?_⟩
              clear HKK KK hR7 hown7 hg7 HNW hbase HK6 HK5 HCU6 HCU HZ6 HZ keep7 hgT hz7
              (try simp only [Act.put, List.setIfInBounds_toArray])
              refine one_readyH (i := 16) (by kernel_rfl) (wpOp_step rfl (fun KK hKK => ?_))
              have HKK := Lib.hid hKK
              clear hKK
              go_simp
              refine HKK.out _ _ ⟨HX7.out, ?_⟩
              clear HKK KK
              (try simp only [Act.put, List.setIfInBounds_toArray, List.set_cons_zero, List.set_cons_succ])
              refine one_readyH (i := 17) (by kernel_rfl) (wpOp_step rfl (fun KK hKK => ?_))
              have HKK := Lib.hid hKK
              clear hKK
              go_simp
              refine HKK.out _ _ ⟨HX7.out, ?_⟩
              clear HKK KK
              (try simp only [Act.put, List.setIfInBounds_toArray, List.set_cons_zero, List.set_cons_succ])
              refine one_readyH (i := 18) (by kernel_rfl) (wpOp_step rfl (fun KK hKK => ?_))
              have HKK := Lib.hid hKK
              clear hKK
              go_simp
              rw [HTL.out] at HF8
              refine HKK.out _ _ ⟨HF8.out.row, ?_⟩
              clear HKK KK hu7 zf
              refine wpAnyH_done (by kernel_rfl) ?_ _
              refine NoPanic.normal ?_
              go_wp2_with fail
              go_roundw
              case rel => exact ⟨j + 1, acc ++ [pl], _, by go_num, HLJ.out, HAL2, HPL, HF8⟩
              case measure => have := HLJ.out; simp [intOf]; omega
        · have hje : j = x.after.length := by omega
          subst hje
          have hp : placesP ns [] x.after = .inr acc := by rw [HPJ.out, List.drop_length, placesP]
          have HRN := Lib.hid (show r = tasksP ns (ts ++ [mkT x acc]) (xs.drop (k + 1)) by
            rw [HRK.out, drop_any HX.out, tasks_good hp]
            rfl)
          have HTN := Lib.hid (show (ts ++ [mkT x acc]).length = k + 1 by rw [List.length_append, HTL.out]; rfl)
          have HKN := Lib.hid (HK2.out.next (x := x) (by rw [HTL.out]; exact HX.out))
          have h8' := H8.out
          clear hp HK2 HPJ HAL
          go_wp2_with fail
          go_roundw
          case rel => exact ⟨k + 1, _, ts ++ [mkT x acc], vl2, by go_num, by omega, HTN, HRN, HKN⟩
          case measure => simp [intOf]; omega
    · have hke : k = xs.length := by omega
      subst hke
      have HV1 := Lib.hid (show r = .inr ts by rw [HRK.out, List.drop_length, tasksP])
      go_wp2_with fail
      go_ret
      refine ⟨HK.out.low, ?_⟩
      rw [HV1.out]
      exact ⟨rfl, HTL.out, g, cap, _, _, HK.out⟩
end
end Go.Proofs.YtcfnmjhelhdobaaGreatDoor
