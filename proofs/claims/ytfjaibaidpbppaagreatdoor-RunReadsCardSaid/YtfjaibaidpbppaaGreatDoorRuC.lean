/-
  The program's kind, fit (run): a run is made of just those pipelines that may be. Conditions: few tasks. The program's clone (run): a pipeline's like in memory of its own. Conditions: at least one task, few.
-/
import Derived.Test.YtfjaibaidpbppaaGreatDoorRuA
import Derived.Test.YtfjaibaidpbppaaGreatDoorRnD
import Derived.Test.YtfjaibaidpbppaaGreatDoorChkR
import Derived.Test.YtfjaibaidpbppaaGreatDoorOrdG
import Derived.Deep.DeepCutAuto
import Derived.Test.YtfjaibaidpbppaaGreatDoorCodX
namespace Go.Proofs.YtfjaibaidpbppaaGreatDoor
open Go.RowKit

/-- A bool is answered, true just if P. -/
def JustIf (P : Prop) (e : Ending) : Prop := ∃ b, e = .returned (.bool b) ∧ (b = true ↔ P)
/-- 0 a task, 1 a gate. -/
def kindI (t : TkP) : Int := if 0 < t.need then 1 else 0
def astrB (t : TkP) : Bool := decide (0 < t.need) && decide (t.after.length ≠ 1)
def toIT (t : TkP) : TkI := ⟨t.name, t.after.map Int.ofNat, t.retry, t.time, t.need, t.lv, t.st⟩
theorem toIT_back (ts : List TkP) : (ts.map toIT).map TkI.toP = ts := by
  rw [List.map_map]
  conv => rhs; rw [← List.map_id ts]
  refine List.map_congr_left fun t _ => ?_
  show TkP.mk t.name ((t.after.map Int.ofNat).map Int.toNat) t.retry t.time t.need t.lv t.st = t
  rw [List.map_map, show (Int.toNat ∘ Int.ofNat) = id from rfl, List.map_id]
theorem TksAt.tksI {w : World} {A : Option Addr} {ts : List TkP} (h : TksAt w A ts) : TksI w A (ts.map toIT) := fun hn => by
  obtain ⟨ad, e, hc⟩ := h (by simpa using hn)
  refine ⟨ad, e, fun i t ht => ?_⟩
  rw [List.getElem?_map] at ht
  cases hq : ts[i]? with
  | none => rw [hq] at ht; cases ht
  | some q =>
    rw [hq] at ht
    injection ht with ht
    subst ht
    obtain ⟨B, c, h1, h2, h3⟩ := hc i q hq
    have hl : (toIT q).after.length = q.after.length := List.length_map ..
    refine ⟨B, c, fun j v hj => h1 j v (by rw [hl] at hj; exact hj), fun hn => ?_, by rw [hl]; exact h3⟩
    obtain ⟨bd, e2, hd⟩ := h2 (by rw [hl] at hn; exact hn)
    refine ⟨bd, e2, fun k v hv => ?_⟩
    have hv : (q.after.map Int.ofNat)[k]? = some v := hv
    rw [List.getElem?_map] at hv
    cases hx : q.after[k]? with
    | none => rw [hx] at hv; cases hv
    | some x =>
      rw [hx] at hv
      injection hv with hv
      subst hv
      exact hd k x hx
/-- Few tasks, with few ahead. -/
structure FewT (n : ByteArray) (ts : List TkP) : Prop where
  task : ∀ t ∈ ts, t.after.length ≤ 20 ∧ t.name.size ≤ 100
  len : ts.length ≤ 20
  name : n.size ≤ 100
  st : ∀ t ∈ ts, 0 ≤ t.st ∧ t.st ≤ 65535
theorem MayP.few {n : ByteArray} {ts : List TkP} (h : MayP n ts) : FewT n ts := by
  have hn : ∀ s, nameOk s → s.size ≤ 100 := fun s hs => by
    unfold nameOk at hs
    have := hs.1
    omega
  refine ⟨fun t ht => ⟨?_, hn _ (h.right.task t ht).name⟩, by have := h.right.few; have : ts.length ≤ 8 := this.2; omega, hn _ h.right.name, fun t ht => ⟨(h.right.task t ht).lab.2.2.1, (h.right.task t ht).lab.2.2.2⟩⟩
  have h8 : ts.length ≤ 8 := h.right.few.2
  have h1 := (h.right.task t ht).aft
  have h2 : t.after.length ≤ ts.length := few_below _ _ h1.1 h1.2
  omega
section
variable {w : World} {A : Option Addr} {c : Nat} {n : ByteArray} {ts : List TkP}
set_option maxHeartbeats 1000000 in
set_option maxRecDepth 100000 in
theorem rkind_is (t : TkP) (B : Option Addr) (d : Nat) (w : World) : Calls Tryz.prog 36 #[.agg (tkA t B d)] w fun e w' => e = .returned (.int .i64 (kindI t)) ∧ Below w.heap.size w w' := by
  have HX := Lib.hid (made_at w (.cells (tkA t B d) 65))
  have HB := Lib.hid ((Below.refl w.heap.size w).alloc (Nat.le_refl _) (.cells (tkA t B d) 65))
  obtain ⟨r, hr⟩ : ∃ r, r = kindI t := ⟨_, rfl⟩
  rw [← hr]
  have HR := Lib.hid hr
  clear hr
  go_enter Tryz.func36, Tryz.ntmps36
  go_upto_region 1 with fail
  generalize hW : (w.alloc (.cells (tkA t B d) 65)) = W at *
  clear hW
  have x4 := cellH HX.out 4
  simp at x4
  by_cases hg : 0 < t.need
  · have HE := Lib.hid (show r = 1 by rw [HR.out]; exact if_pos hg)
    go_wp2_with fail
    go_ret
    exact ⟨by rw [HE.out]; rfl, HB.out⟩
  · have HE := Lib.hid (show r = 0 by rw [HR.out]; exact if_neg hg)
    go_wp2_with fail
    go_ret
    exact ⟨by rw [HE.out]; rfl, HB.out⟩
set_option maxHeartbeats 1000000 in
set_option maxRecDepth 100000 in
theorem astray_is (t : TkP) (B : Option Addr) (d : Nat) (w : World) : Calls Tryz.prog 62 #[.agg (tkA t B d)] w fun e w' => e = .returned (.bool (astrB t)) ∧ Below w.heap.size w w' := by
  have HX := Lib.hid (made_at w (.cells (tkA t B d) 65))
  have HB := Lib.hid ((Below.refl w.heap.size w).alloc (Nat.le_refl _) (.cells (tkA t B d) 65))
  obtain ⟨r, hr⟩ : ∃ r, r = astrB t := ⟨_, rfl⟩
  rw [← hr]
  have HR := Lib.hid hr
  obtain ⟨q, hq⟩ : ∃ q, q = kindI t := ⟨_, rfl⟩
  have hk := fun W : World => rkind_is t B d W
  rw [← hq] at hk
  have HK := Lib.hid hk
  have HQ := Lib.hid hq
  clear hr hq hk
  go_enter Tryz.func62, Tryz.ntmps62
  go_upto_region 1 with fail
  generalize hW : (w.alloc (.cells (tkA t B d) 65)) = W at *
  clear hW
  have HXW := Lib.hid (fun j => cellH HX.out j)
  have x0 := HXW.out 0
  have x1 := HXW.out 1
  have x2 := HXW.out 2
  have x3 := HXW.out 3
  have x4 := HXW.out 4
  have x5 := HXW.out 5
  have x6 := HXW.out 6
  simp at x0 x1 x2 x3 x4 x5 x6
  go_wp2_with fail
  refine (HK.out _).mono ?_
  rintro e w1 ⟨rfl, hb1⟩
  have y1 := cell_later hb1 x1
  have HB1 := Lib.hid (below_step HB.out hb1)
  clear hb1 x0 x1 x2 x3 x4 x5 x6 HK
  by_cases hg : 0 < t.need
  · have hq1 : (q == 1) = true := by rw [HQ.out]; simp [kindI, hg]
    have HE := Lib.hid (show r = ((t.after.length : Int) != 1) by
      rw [HR.out, astrB, decide_eq_true hg, Bool.true_and]
      by_cases h1 : t.after.length = 1
      · rw [h1]; rfl
      · rw [decide_eq_true h1]
        symm
        rw [bne_iff_ne]
        omega)
    go_wp2_with fail
    go_ret
    exact ⟨by rw [HE.out]; rfl, HB1.out⟩
  · have hq1 : (q == 1) = false := by rw [HQ.out]; simp [kindI, hg]
    have HE := Lib.hid (show r = false by rw [HR.out, astrB, decide_eq_false hg]; rfl)
    go_wp2_with fail
    go_ret
    exact ⟨by rw [HE.out]; rfl, HB1.out⟩
theorem anyT_take {f : TkP → Bool} {l : List TkP} {k : Nat} {x : TkP} (hx : l[k]? = some x) : (l.take (k + 1)).any f = ((l.take k).any f || f x) := by
  rw [List.take_add_one, hx, List.any_append]
  simp
set_option maxHeartbeats 1000000 in
set_option maxRecDepth 100000 in
theorem idxT_is (hA : TksAt w A ts) (hl : ts.length ≤ 1000000) :
    Calls Tryz.prog 88 #[.slice A ts.length c, .func (.func 62) #[] #[]] w fun e w' => (∃ r : Int, e = .returned (.int .i64 r) ∧ decide (0 ≤ r) = ts.any astrB) ∧ Below w.heap.size w w' := by
  have HA := Lib.hid hA
  clear hA
  obtain ⟨b, hb⟩ : ∃ b, b = ts.any astrB := ⟨_, rfl⟩
  rw [← hb]
  have HBB := Lib.hid hb
  clear hb
  go_enter Tryz.func88, Tryz.ntmps88
  go_wp2_with fail
  go_loopw [8] (fun i wr => ∃ k : Nat, i = .int .i64 k ∧ k ≤ ts.length ∧ Hid ((ts.take k).any astrB = false) ∧ Hid (Below w.heap.size w wr)) (fun i _ => ts.length - (intOf i).toNat)
  case atStart => exact ⟨0, rfl, Nat.zero_le _, Lib.hid rfl, Lib.hid (Below.refl _ _)⟩
  case round =>
    obtain ⟨k, rfl, hk, HN, HB⟩ := hrel
    by_cases hlt : k < ts.length
    · obtain ⟨t, ht⟩ : ∃ t, ts[k]? = some t := ⟨_, List.getElem?_eq_getElem hlt⟩
      obtain ⟨pa, B1, c1, rfl, p0, pj, hna, hca⟩ := (HA.out.later HB.out).at_ ht
      have p1 := pj 1 _ rfl
      have p2 := pj 2 _ rfl
      have p3 := pj 3 _ rfl
      have p4 := pj 4 _ rfl
      have p5 := pj 5 _ rfl
      have p6 := pj 6 _ rfl
      have HT := Lib.hid ht
      have hk0 : (0 : Int) ≤ (k : Int) := by omega
      have hkl : (k : Int) < (ts.length : Int) := by omega
      obtain ⟨q, hq⟩ : ∃ q, q = astrB t := ⟨_, rfl⟩
      have hc := fun W : World => astray_is t B1 c1 W
      rw [← hq] at hc
      have HC := Lib.hid hc
      have HQ := Lib.hid hq
      clear pj ht hna hca hq hc
      cases q with
      | true =>
        go_wp2_with (go_at_call 62; refine (HC.out _).mono ?_; rintro e w1 ⟨rfl, hb1⟩; have HB1 := Lib.hid (below_step HB.out hb1); clear hb1)
        go_ret
        exact ⟨⟨_, rfl, by rw [HBB.out, List.any_eq_true.2 ⟨t, List.mem_of_getElem? HT.out, HQ.out.symm⟩]; exact decide_eq_true (by omega)⟩, HB1.out⟩
      | false =>
        go_wp2_with (go_at_call 62; refine (HC.out _).mono ?_; rintro e w1 ⟨rfl, hb1⟩; have HB1 := Lib.hid (below_step HB.out hb1); clear hb1)
        go_roundw
        case rel => exact ⟨k + 1, by go_num, by omega, Lib.hid (by rw [anyT_take HT.out, HN.out, ← HQ.out]; rfl), HB1⟩
        case measure => simp [intOf]; omega
    · obtain rfl : k = ts.length := by omega
      have hlk : ¬ (ts.length : Int) < (ts.length : Int) := by omega
      have HE := Lib.hid (show b = false by have h := HN.out; rw [List.take_length] at h; rw [HBB.out, h])
      go_wp2_with fail
      go_ret
      exact ⟨⟨_, rfl, by rw [HE.out]; rfl⟩, HB.out⟩
set_option maxHeartbeats 1000000 in
set_option maxRecDepth 100000 in
theorem anyTk_is (hA : TksAt w A ts) (hl : ts.length ≤ 1000000) :
    Calls Tryz.prog 65 #[.slice A ts.length c, .func (.func 62) #[] #[]] w fun e w' => e = .returned (.bool (ts.any astrB)) ∧ Below w.heap.size w w' := by
  have HI := Lib.hid (idxT_is (c := c) hA hl)
  clear hA
  obtain ⟨b, hb⟩ : ∃ b, b = ts.any astrB := ⟨_, rfl⟩
  rw [← hb] at HI ⊢
  clear hb
  go_enter Tryz.func65, Tryz.ntmps65
  go_wp2_with fail
  refine HI.out.mono ?_
  rintro e w1 ⟨⟨r, rfl, hr⟩, hb1⟩
  have HB1 := Lib.hid hb1
  have HR := Lib.hid hr
  clear hb1 hr
  go_wp2_with fail
  go_ret
  exact ⟨by rw [← HR.out]; rfl, HB1.out⟩
set_option maxHeartbeats 2000000 in
set_option maxRecDepth 100000 in
theorem rfit_is (hA : TksAt w A ts) (hF : FewT n ts) :
    Calls Tryz.prog 33 #[.agg #[.string n, .slice A ts.length c]] w fun e w' => JustIf (MayP n ts) e ∧ Below w.heap.size w w' := by
  have b0 := (Below.refl w.heap.size w).alloc (Nat.le_refl _) (.cells #[.string n, .slice A ts.length c] 24)
  have HX := Lib.hid (made_at w (.cells #[.string n, .slice A ts.length c] 24))
  have HB0 := Lib.hid b0
  have HA := Lib.hid hA
  have HF := Lib.hid hF
  have h20 := hF.len
  clear hA b0 hF
  go_enter Tryz.func33, Tryz.ntmps33
  go_upto_region 1 with fail
  generalize hW0 : (w.alloc (.cells #[.string n, .slice A ts.length c] 24)) = W0 at *
  clear hW0
  have x0 := cellH HX.out 0
  have x1 := cellH HX.out 1
  simp at x0 x1
  by_cases hp : RightPi ⟨n, ts⟩
  · have HP := Lib.hid hp
    have HR := Lib.hid (mright_is (c := c) (HA.out.later HB0.out) hp)
    clear hp
    go_wp2_with fail
    refine HR.out.mono ?_
    rintro e w1 ⟨rfl, hb1⟩
    have HB1 := Lib.hid (below_step HB0.out hb1)
    have HX1 := Lib.hid (later_at hb1 HX.out)
    clear hb1 x0 x1 HR HX
    have x0 := cellH HX1.out 0
    have x1 := cellH HX1.out 1
    simp at x0 x1
    obtain ⟨v, hv⟩ : ∃ v, v = roundP ⟨n, ts⟩ := ⟨_, rfl⟩
    have ho := oround_is (c := c) (HA.out.later HB1.out) HP.out
    rw [← hv] at ho
    have HO := Lib.hid ho
    have HV := Lib.hid hv
    clear hv ho
    go_wp2_with fail
    refine HO.out.mono ?_
    rintro e w2 ⟨rfl, hb2⟩
    have HB2 := Lib.hid (below_step HB1.out hb2)
    have HX2 := Lib.hid (later_at hb2 HX1.out)
    clear hb2 x0 x1 HO HX1
    have x1 := cellH HX2.out 1
    simp at x1
    by_cases hv0 : v < 0
    · have HN := Lib.hid (show ∀ i, ¬ Beh ts i i from (round_no HP.out).1 (by rw [← HV.out]; exact hv0))
      obtain ⟨a, ha⟩ : ∃ a, a = ts.any astrB := ⟨_, rfl⟩
      have hc := anyTk_is (c := c) (HA.out.later HB2.out) (by omega)
      rw [← ha] at hc
      have HC := Lib.hid hc
      have HQ := Lib.hid (show (!a) = true ↔ MayP n ts by
        rw [ha]
        constructor
        · intro h
          refine ⟨HP.out, HN.out, fun t ht hn => ?_⟩
          by_cases h1 : t.after.length = 1
          · exact h1
          · have : ts.any astrB = true := List.any_eq_true.2 ⟨t, ht, by simp [astrB, hn, h1]⟩
            rw [this] at h
            cases h
        · intro h
          cases hx : ts.any astrB with
          | false => rfl
          | true =>
            obtain ⟨t, ht, hq⟩ := List.any_eq_true.1 hx
            unfold astrB at hq
            simp only [Bool.and_eq_true, decide_eq_true_eq] at hq
            exact absurd (h.gate t ht hq.1) hq.2)
      clear ha hc
      go_wp2_with fail
      refine HC.out.mono ?_
      rintro e w3 ⟨rfl, hb3⟩
      have HB3 := Lib.hid (below_step HB2.out hb3)
      clear hb3 x1
      go_wp2_with fail
      go_ret
      exact ⟨⟨_, rfl, HQ.out⟩, HB3.out⟩
    · have HQ := Lib.hid (show (false = true) ↔ MayP n ts from ⟨(fun h => by cases h), fun h => absurd ((round_no h.right).2 h.round) (by rw [← HV.out]; exact hv0)⟩)
      go_wp2_with fail
      go_ret
      exact ⟨⟨_, rfl, HQ.out⟩, HB2.out⟩
  · have hm : (ts.map toIT).length = ts.length := List.length_map ..
    have HR := Lib.hid (show Calls Tryz.prog 63 #[.agg #[.string n, .slice A ts.length c]] W0 fun e w' => e = .returned (.bool false) ∧ Below W0.heap.size W0 w' from by
      have h := mrighti_is (c := c) (n := n) (HA.out.later HB0.out).tksI ⟨fun t ht => by
        obtain ⟨q, hq, rfl⟩ := List.mem_map.1 ht
        have := HF.out.task q hq
        exact ⟨by show (q.after.map Int.ofNat).length ≤ 20; rw [List.length_map]; exact this.1, this.2⟩, by rw [hm]; exact h20, HF.out.name⟩
      rw [hm] at h
      refine h.mono ?_
      rintro e w1 ⟨⟨b, rfl, hb⟩, hbl⟩
      cases b with
      | false => exact ⟨rfl, hbl⟩
      | true =>
        refine absurd ?_ hp
        have h2 := (hb rfl).right (fun t ht => by
          obtain ⟨q, hq, rfl⟩ := List.mem_map.1 ht
          exact HF.out.st q hq)
        rwa [toIT_back] at h2)
    have HQ := Lib.hid (show (false = true) ↔ MayP n ts from ⟨(fun h => by cases h), fun h => absurd h.right hp⟩)
    clear hp
    go_wp2_with fail
    refine HR.out.mono ?_
    rintro e w1 ⟨rfl, hb1⟩
    have HB1 := Lib.hid (below_step HB0.out hb1)
    clear hb1 x0 x1
    go_wp2_with fail
    go_ret
    exact ⟨⟨_, rfl, HQ.out⟩, HB1.out⟩
end
end Go.Proofs.YtfjaibaidpbppaaGreatDoor

namespace Go.Proofs.YtfjaibaidpbppaaGreatDoor
open Go.RowKit

theorem pick_all {α : Type} {Q : Nat → α → Value → Prop} : ∀ (l : List α) (o : Nat), (∀ (i : Nat) x, l[i]? = some x → ∃ v, Q (o + i) x v) → ∃ vs : List Value, vs.length = l.length ∧ ∀ (i : Nat) x v, l[i]? = some x → vs[i]? = some v → Q (o + i) x v
  | [], o, _ => ⟨[], rfl, fun i x v h => by simp at h⟩
  | y :: l, o, h => by
    obtain ⟨v, hv⟩ := h 0 y rfl
    obtain ⟨vs, h1, h2⟩ := pick_all l (o + 1) (fun i x hx => by
      obtain ⟨u, hu⟩ := h (i + 1) x hx
      exact ⟨u, by rw [Nat.add_assoc, Nat.add_comm 1 i]; exact hu⟩)
    refine ⟨v :: vs, by simp [h1], fun i x u hx hu => ?_⟩
    rcases i with _ | i
    · obtain rfl : y = x := by simpa using hx
      obtain rfl : v = u := by simpa using hu
      exact hv
    · have := h2 i x u (by simpa using hx) (by simpa using hu)
      rwa [Nat.add_assoc, Nat.add_comm 1 i] at this
theorem flat_inv {α : Type} (f : α → List Value) (k : Nat) (hf : ∀ x, (f x).length = k) (hk : 0 < k) : ∀ (l : List α) (p : Nat) (u : Value), (l.flatMap f)[p]? = some u → ∃ x, l[p / k]? = some x ∧ (f x)[p % k]? = some u
  | [], p, u, h => by simp at h
  | y :: l, p, u, h => by
    rw [List.flatMap_cons] at h
    by_cases hp : p < k
    · rw [List.getElem?_append_left (by rw [hf]; exact hp)] at h
      exact ⟨y, by rw [Nat.div_eq_of_lt hp]; rfl, by rw [Nat.mod_eq_of_lt hp]; exact h⟩
    · rw [List.getElem?_append_right (by rw [hf]; omega), hf] at h
      obtain ⟨x, h1, h2⟩ := flat_inv f k hf hk l (p - k) u h
      have e1 : p / k = (p - k) / k + 1 := by
        rw [Nat.div_eq_sub_div hk (by omega)]
      have e2 : p % k = (p - k) % k := by
        rw [Nat.mod_eq_sub_mod (by omega)]
      exact ⟨x, by rw [e1]; exact h1, by rw [e2]; exact h2⟩
/-- A task's seven cells, whatever its After's slice. -/
def tkQ (q : TkP × Value) : List Value := tkC q.1 q.2
theorem tkQ_len (q : TkP × Value) : (tkQ q).length = 7 := rfl
/-- The tasks stand in the block T; vs are the slices of their After's. -/
def TkRow (W : World) (T : Nat) (ts : List TkP) (vs : List Value) : Prop :=
  ∃ cs, W.heap[T]? = some (.cells cs 65 (0, 0)) ∧ ∀ (i : Nat) t v, ts[i]? = some t → vs[i]? = some v → ∀ (j : Nat) u, (tkC t v)[j]? = some u → cs[i * 7 + j]? = some u
section
variable {W V : World} {T : Nat} {ts : List TkP} {vs : List Value}
theorem TkRow.same (h : TkRow W T ts vs) (hk : V.heap[T]? = W.heap[T]?) : TkRow V T ts vs := by
  obtain ⟨cs, h1, h2⟩ := h
  exact ⟨cs, hk.trans h1, h2⟩
theorem TkRow.low (h : TkRow W T ts vs) : T < W.heap.size := by
  obtain ⟨cs, h1, _⟩ := h
  exact (Array.getElem?_eq_some_iff.1 h1).1
theorem TkRow.cell (h : TkRow W T ts vs) {i j : Nat} {t : TkP} {v u : Value} (ht : ts[i]? = some t) (hv : vs[i]? = some v) (hu : (tkC t v)[j]? = some u) : W.cell? ⟨T, i * 7 + j, none⟩ = some u := by
  obtain ⟨cs, h1, h2⟩ := h
  rw [cellH h1]
  exact h2 i t v ht hv j u hu
theorem TkRow.free (h : TkRow W T ts vs) (i : Nat) : W.frozen? ⟨T, i, none⟩ = false := by
  obtain ⟨cs, h1, _⟩ := h
  exact freeH h1 i
/-- One After is another slice. -/
theorem TkRow.set (h : TkRow W T ts vs) {k : Nat} {t : TkP} {v v' : Value} (ht : ts[k]? = some t) (hv : vs[k]? = some v) : TkRow (W.setCell ⟨T, k * 7 + 1, none⟩ v') T ts (vs.set k v') := by
  obtain ⟨cs, h1, h2⟩ := h
  refine ⟨cs.setIfInBounds (k * 7 + 1) v', row_set h1, fun i q x hq hx j y hy => ?_⟩
  have hjl : j < 7 := (List.getElem?_eq_some_iff.1 hy).1
  have hold := h2 k t v ht hv 1 _ rfl
  have hlt := (Array.getElem?_eq_some_iff.1 hold).1
  by_cases hik : i = k
  · subst hik
    rw [List.getElem?_set_self (List.getElem?_eq_some_iff.1 hv).1] at hx
    injection hx with hx
    subst hx
    rw [ht] at hq
    injection hq with hq
    subst hq
    by_cases hjj : j = 1
    · subst hjj
      rw [Array.getElem?_setIfInBounds_self_of_lt hlt]
      exact hy
    · rw [Array.getElem?_setIfInBounds_ne (by omega)]
      refine h2 i t v ht hv j y ?_
      rcases j with _ | j
      · exact hy
      · rcases j with _ | j
        · exact absurd rfl hjj
        · exact hy
  · rw [List.getElem?_set_ne (fun e => hik e.symm)] at hx
    rw [Array.getElem?_setIfInBounds_ne (by omega)]
    exact h2 i q x hq hx j y hy
end
section
variable {w : World} {A : Option Addr} {c : Nat} {n : ByteArray} {ts : List TkP}
theorem NatsAt.ints {w : World} {A : Option Addr} {l : List Nat} (h : NatsAt w A l) : ∀ ad, A = some ad → ∀ j u, ((l.map fun n => Value.int .i64 (n : Nat)))[j]? = some u → w.cell? (ad.add j) = some u := by
  rintro ad rfl j u hu
  rw [List.getElem?_map] at hu
  cases hx : l[j]? with
  | none => rw [hx] at hu; cases hu
  | some x =>
    rw [hx] at hu
    injection hu with hu
    subst hu
    obtain ⟨ad', e, hc⟩ := h (by have := (List.getElem?_eq_some_iff.1 hx).1; omega)
    obtain rfl := Option.some.inj e
    exact hc j x hx
theorem nats_ofC {w : World} {A : Option Addr} {c : Nat} {l : List Nat} (h : IntsC w A c (l.map Int.ofNat)) : NatsAt w A l := fun hn => by
  obtain ⟨ad, e, hc⟩ := h.at_ (by rw [List.length_map]; exact hn)
  refine ⟨ad, e, fun i n hi => ?_⟩
  rw [hc i (by rw [List.length_map]; exact (List.getElem?_eq_some_iff.1 hi).1), List.getD_eq_getElem?_getD, List.getElem?_map, hi]
  rfl
set_option maxHeartbeats 1000000 in
set_option maxRecDepth 100000 in
theorem nclone_is {l : List Nat} (ha : NatsAt w A l) (hn : l.length ≤ 64) (hcp : l.length ≤ c) :
    Calls Tryz.prog 67 #[.slice A l.length c] w fun e w' => ∃ B b, e = .returned (.slice B l.length b) ∧ NatsAt w' B l ∧ l.length ≤ b ∧ (∀ ad, B = some ad → w.heap.size ≤ ad.block) ∧ Below w.heap.size w w' := by
  have q0 := nilInts12
  obtain ⟨i0, hi, hz0, hz1, hz2⟩ := info_all info_int
  rcases A with _ | ad
  · obtain rfl : l = [] := by
      rcases l with _ | ⟨x, l⟩
      · rfl
      · obtain ⟨ad, e, _⟩ := ha (by simp)
        cases e
    simp only [List.length_nil]
    go_enter Tryz.func67, Tryz.ntmps67
    go_wp2_with fail
    go_ret
    exact ⟨none, 0, rfl, (fun h => absurd h (Nat.lt_irrefl _)), Nat.le_refl _, (fun _ h => by cases h), Below.refl _ _⟩
  · have HA := Lib.hid ha
    clear ha
    go_enter Tryz.func67, Tryz.ntmps67
    go_wp2_with (at_builtin; refine wpList_append_own _ rfl _ _ 60 rfl w.heap.size 3 i0 _ 1 8 Tryz.underlying60 hi hz0 hz1 hz2 rfl (by omega) (.slice (some ⟨w.heap.size, 0, none⟩) 0 0) 0 [] rfl (World.ownsRow_lit w #[] 0 (Nat.le_refl _) (by unfold maxLen; omega) rfl) ad l.length c (l.map (fun n => Value.int .i64 (n : Nat))) rfl (by simp) (fun j u hu => cell_alloc (HA.out.ints ad rfl j u hu)) (by simp [Value.oneCell']) (by unfold maxLen; omega) (by omega) (by simp) ?_; intro v1 w1 hown1 hg1 _)
    have hown2 : w1.ownsRow w.heap.size 3 1 v1 (l.map Int.ofNat).length ((l.map Int.ofNat).map (Value.int .i64)) := by
      rw [List.length_map, List.map_map, show (Value.int .i64 ∘ Int.ofNat) = fun n : Nat => Value.int .i64 (n : Int) from rfl]
      simpa using hown1
    obtain ⟨B, b, rfl, hB, hO⟩ := intsC_of_own hown2
    rw [List.length_map]
    go_ret
    have hcap := hB.cap
    rw [List.length_map] at hcap
    exact ⟨B, b, rfl, nats_ofC hB, hcap, hO, ((Below.refl _ _).alloc (Nat.le_refl _) _).grown hg1 (by simp) (by simp [Value.ownBlock])⟩
@[go_sem ↓] theorem nilTks (w : World) (a : Option Addr) (n c : Nat) : (binOp .eql 22 (.slice a n c) (.slice none 0 0)).run Tryz.prog w = .ok (.bool a.isNone) w := Lib.run_eql_slice_nil w _ 65 a n c 0 0 Tryz.underlying22
/-- What is known of a task's After. -/
def AftQ (W : World) (t : TkP) (v : Value) : Prop := ∃ B c, v = .slice B t.after.length c ∧ NatsAt W B t.after ∧ t.after.length ≤ c
set_option maxHeartbeats 1000000 in
set_option maxRecDepth 100000 in
theorem tclone_is {w0 : World} (hA0 : TksAt w0 A ts) (hB0 : Below w0.heap.size w0 w) (h1 : 1 ≤ ts.length) (h8 : ts.length ≤ 64) :
    Calls Tryz.prog 66 #[.slice A ts.length c] w fun e w' => ∃ T b vs, e = .returned (.slice (some ⟨T, 0, none⟩) ts.length b) ∧ TkRow w' T ts vs ∧ vs.length = ts.length ∧ (∀ (i : Nat) t v, ts[i]? = some t → vs[i]? = some v → AftQ w0 t v) ∧ ts.length ≤ b ∧ w.heap.size ≤ T ∧ Below w.heap.size w w' := by
  obtain ⟨i0, hi, hz0, hz1, hz2⟩ := info_all info_task
  obtain ⟨ad, rfl, hc⟩ := hA0 (by omega)
  obtain ⟨vs, hl, hv⟩ := pick_all (Q := fun i t v => (∃ B d, v = .slice B t.after.length d ∧ NatsAt w0 B t.after ∧ t.after.length ≤ d) ∧ ∀ (j : Nat) (u : Value), (tkC t v)[j]? = some u → w0.cell? (ad.add (i * 7 + j)) = some u) ts 0 (fun i t ht => by
    obtain ⟨B, d, h1, h2, h3⟩ := hc i t ht
    rw [Nat.zero_add]
    exact ⟨_, ⟨B, d, rfl, h2, h3⟩, h1⟩)
  have HCE := Lib.hid (show ∀ j u, ((ts.zip vs).flatMap tkQ)[j]? = some u → w.cell? (ad.add j) = some u from fun j u hu => by
    obtain ⟨q, h1, h2⟩ := flat_inv tkQ 7 tkQ_len (by omega) _ j u hu
    rw [List.getElem?_zip_eq_some] at h1
    have h3 := (hv (j / 7) q.1 q.2 h1.1 h1.2).2 (j % 7) u h2
    rw [Nat.zero_add] at h3
    rw [show j / 7 * 7 + j % 7 = j by omega] at h3
    exact cell_later hB0 h3)
  have HAF := Lib.hid (show ∀ (i : Nat) t v, ts[i]? = some t → vs[i]? = some v → AftQ w0 t v from fun i t v ht hv2 => (hv i t v ht hv2).1)
  have HONE := Lib.hid (show ∀ u ∈ (ts.zip vs).flatMap tkQ, u.oneCell' = true from fun u hu => by
    obtain ⟨q, hq, hu2⟩ := List.mem_flatMap.1 hu
    obtain ⟨i, hi⟩ := List.mem_iff_getElem?.1 hq
    rw [List.getElem?_zip_eq_some] at hi
    obtain ⟨B, d, e, _⟩ := (hv i q.1 q.2 hi.1 hi.2).1
    unfold tkQ tkC at hu2
    rw [e] at hu2
    simp only [List.mem_cons, List.not_mem_nil, or_false] at hu2
    rcases hu2 with rfl | rfl | rfl | rfl | rfl | rfl | rfl <;> rfl)
  have hzl : (ts.zip vs).length = ts.length := by rw [List.length_zip, hl]; omega
  have HLE := Lib.hid (show ((ts.zip vs).flatMap tkQ).length = ts.length * 7 by rw [flat_len tkQ 7 tkQ_len, hzl])
  have HL := Lib.hid hl
  have H1 := Lib.hid h1
  clear hc hv hA0 hB0 hl hzl h1
  go_enter Tryz.func66, Tryz.ntmps66
  go_wp2_with (at_builtin; refine wpList_append_own _ rfl _ _ 22 rfl w.heap.size 65 i0 _ 7 80 Tryz.underlying22 hi hz0 hz1 hz2 rfl (by omega) (.slice (some ⟨w.heap.size, 0, none⟩) 0 0) 0 [] rfl (World.ownsRow_lit w #[] 0 (Nat.le_refl _) (by unfold maxLen; omega) rfl) ad ts.length c ((ts.zip vs).flatMap tkQ) rfl HLE.out (fun j u hu => cell_alloc (HCE.out j u hu)) HONE.out (by unfold maxLen; omega) (by omega) (by simp) ?_; intro v1 w1 hown1 hg1 _)
  have hown2 : w1.ownsRow w.heap.size 65 7 v1 ts.length ((ts.zip vs).flatMap tkQ) := by simpa using hown1
  obtain ⟨T, b, cur, rfl, hT, hTb, hcs, hcap⟩ : ∃ T b cur, v1 = .slice (some ⟨T, 0, none⟩) ts.length b ∧ w1.heap[T]? = some (.cells cur 65 (0, 0)) ∧ w.heap.size ≤ T ∧ (∀ j u, ((ts.zip vs).flatMap tkQ)[j]? = some u → cur[j]? = some u) ∧ ts.length ≤ b := by
    rcases hown2.2 with ⟨_, h0⟩ | ⟨g, cap, cur, e, h⟩
    · have := H1.out
      omega
    · obtain ⟨hb, hg, hn, _, hsz, htk⟩ := h
      refine ⟨g, cap, cur, e, hg, hb, fun j u hu => ?_, hn⟩
      rw [← htk] at hu
      have hj := (List.getElem?_eq_some_iff.1 hu).1
      rw [List.length_take] at hj
      rw [List.getElem?_take_of_lt (by omega), Array.getElem?_toList] at hu
      exact hu
  go_ret
  refine ⟨T, b, vs, rfl, ⟨cur, hT, fun i t v ht hv j u hu => hcs _ _ (flat_at tkQ 7 tkQ_len _ i (t, v) j u (by rw [List.getElem?_zip_eq_some]; exact ⟨ht, hv⟩) hu)⟩, HL.out, HAF.out, hcap, hTb, ((Below.refl _ _).alloc (Nat.le_refl _) _).grown hg1 (by simp) (by simp [Value.ownBlock])⟩
/-- While a pipeline is cloned: k of the tasks have an After of their own. -/
structure CnS (w : World) (T b : Nat) (n : ByteArray) (ts : List TkP) (k : Nat) (vs : List Value) (W : World) : Prop where
  low : Below w.heap.size w W
  pb : W.heap[w.heap.size]? = some (.cells #[.string n, .slice (some ⟨T, 0, none⟩) ts.length b] 24 (0, 0))
  rb : W.heap[w.heap.size + 1]? = some (.cells #[.string ⟨#[]⟩, .slice none 0 0] 24 (0, 0))
  row : TkRow W T ts vs
  len : vs.length = ts.length
  tlo : w.heap.size + 2 ≤ T
  cap : ts.length ≤ b
  aft : ∀ (i : Nat) t v, ts[i]? = some t → vs[i]? = some v → ∃ B c, v = .slice B t.after.length c ∧ NatsAt W B t.after ∧ t.after.length ≤ c ∧ (0 < t.after.length → ∀ ad, B = some ad → (i < k → T < ad.block) ∧ (ad.block < w.heap.size ∨ T < ad.block))
theorem CnS.later {T b k : Nat} {vs : List Value} {W V : World} (h : CnS w T b n ts k vs W) (hb : Below W.heap.size W V) : CnS w T b n ts k vs V :=
  ⟨below_step h.low hb, later_at hb h.pb, later_at hb h.rb, h.row.same (hb.block T h.row.low), h.len, h.tlo, h.cap, fun i t v ht hv => by
    obtain ⟨B, c, e, h1, h2, h3⟩ := h.aft i t v ht hv
    exact ⟨B, c, e, h1.later hb, h2, h3⟩⟩
theorem set_other {W : World} {B q i : Nat} {v : Value} (hq : q ≠ B) : (W.setCell ⟨B, i, none⟩ v).heap[q]? = W.heap[q]? := Below.heap_setCell W ⟨B, i, none⟩ v q hq
/-- The next one has its own. -/
theorem CnS.next {T b k : Nat} {vs : List Value} {W V : World} {t : TkP} {B : Option Addr} {c : Nat} (h : CnS w T b n ts k vs W) (ht : ts[k]? = some t) (hb : Below W.heap.size W V) (hN : NatsAt V B t.after) (hc : t.after.length ≤ c) (hn : ∀ ad, B = some ad → W.heap.size ≤ ad.block) :
    CnS w T b n ts (k + 1) (vs.set k (.slice B t.after.length c)) (V.setCell ⟨T, k * 7 + 1, none⟩ (.slice B t.after.length c)) := by
  have hk := (List.getElem?_eq_some_iff.1 ht).1
  have hv := List.getElem?_eq_getElem (l := vs) (i := k) (by rw [h.len]; exact hk)
  have h' := h.later hb
  have hlo := h.tlo
  have hT := h.row.low
  refine ⟨h'.low.setCell (p := ⟨T, k * 7 + 1, none⟩) (by show w.heap.size ≤ T; omega) _, by rw [set_other (by omega)]; exact h'.pb, by rw [set_other (by omega)]; exact h'.rb, h'.row.set ht hv, by rw [List.length_set]; exact h.len, hlo, h.cap, fun i q v hq hv2 => ?_⟩
  by_cases hik : i = k
  · subst hik
    rw [ht] at hq
    injection hq with hq
    subst hq
    rw [List.getElem?_set_self (by rw [h.len]; exact hk)] at hv2
    injection hv2 with hv2
    subst hv2
    refine ⟨B, c, rfl, hN.same (fun _ ad e => set_other (by have := hn ad e; omega)), hc, fun _ ad e => ?_⟩
    have := hn ad e
    exact ⟨fun _ => by omega, .inr (by omega)⟩
  · rw [List.getElem?_set_ne (fun e => hik e.symm)] at hv2
    obtain ⟨B', c', e, h1, h2, h3⟩ := h'.aft i q v hq hv2
    exact ⟨B', c', e, h1.same (fun hl ad he => set_other (by have := (h3 hl ad he).2; omega)), h2, fun hl ad he => ⟨fun hi => (h3 hl ad he).1 (by omega), (h3 hl ad he).2⟩⟩
theorem info_pipe2 : (Tryz.prog.info? 24).map (·.size) = some 2 := by kernel_rfl
/-- What clone answers. -/
def ClnOut (w : World) (n : ByteArray) (ts : List TkP) (e : Ending) (w' : World) : Prop := ∃ g c' X, e = .returned (.agg #[.string n, .slice (some ⟨g, 0, none⟩) ts.length c']) ∧ TksX w' X g ts ∧ g ∈ X ∧ (∀ i ∈ X, w.heap.size ≤ i ∧ i < w'.heap.size) ∧ ts.length ≤ c' ∧ Below w.heap.size w w'
theorem CnS.done {T b : Nat} {vs : List Value} {W : World} (h : CnS w T b n ts ts.length vs W) (u v : Value) : ClnOut w n ts (.returned (.agg #[.string n, .slice (some ⟨T, 0, none⟩) ts.length b])) ((W.setCell ⟨w.heap.size + 1, 0, none⟩ u).setCell ⟨w.heap.size + 1, 1, none⟩ v) := by
  have hlo := h.tlo
  have hs : ∀ q, q ≠ w.heap.size + 1 → ((W.setCell ⟨w.heap.size + 1, 0, none⟩ u).setCell ⟨w.heap.size + 1, 1, none⟩ v).heap[q]? = W.heap[q]? := fun q hq => (set_other hq).trans (set_other hq)
  refine ⟨T, b, (List.range W.heap.size).filter (fun i => decide (w.heap.size ≤ i)), rfl, fun i t ht => ?_, ?_, fun i hi => ?_, h.cap, (h.low.setCell (p := ⟨w.heap.size + 1, 0, none⟩) (Nat.le_succ _) _).setCell (p := ⟨w.heap.size + 1, 1, none⟩) (Nat.le_succ _) _⟩
  · have hk := (List.getElem?_eq_some_iff.1 ht).1
    have hv := List.getElem?_eq_getElem (l := vs) (i := i) (by rw [h.len]; exact hk)
    obtain ⟨B, c, e, h1, h2, h3⟩ := h.aft i t _ ht hv
    refine ⟨B, c, fun j u hu => ?_, h1.same (fun hl ad he => hs _ (by have := (h3 hl ad he).2; omega)), h2, fun hl ad he => ?_⟩
    · rw [World.cell?_of_block (w := W) (a := ⟨T, i * 7 + j, none⟩) (hs T (by omega))]
      exact h.row.cell ht (by rw [hv, e]) hu
    · have h4 := (h3 hl ad he).1 hk
      obtain ⟨ad', e', hc⟩ := h1 hl
      obtain rfl := Option.some.inj (e'.symm.trans he)
      have h5 := block_lt_of_cell (hc 0 _ (List.getElem?_eq_getElem hl))
      rw [add_block] at h5
      simp only [List.mem_filter, List.mem_range, decide_eq_true_eq]
      omega
  · have := h.row.low
    simp only [List.mem_filter, List.mem_range, decide_eq_true_eq]
    omega
  · simp only [List.mem_filter, List.mem_range, decide_eq_true_eq] at hi
    simp only [World.size_setCell]
    omega
theorem CnS.start {T b : Nat} {vs : List Value} {W V : World} (hW : W = (w.alloc (.cells #[.string n, .slice A ts.length c] 24)).alloc (.cells #[.string ⟨#[]⟩, .slice none 0 0] 24)) (hb : Below W.heap.size W V) (hr : TkRow V T ts vs) (hl : vs.length = ts.length) (ha : ∀ (i : Nat) t v, ts[i]? = some t → vs[i]? = some v → AftQ w t v) (hcp : ts.length ≤ b) (hT : W.heap.size ≤ T) :
    V.heap[w.heap.size]? = some (.cells #[.string n, .slice A ts.length c] 24 (0, 0)) ∧ CnS w T b n ts 0 vs (V.setCell ⟨w.heap.size, 1, none⟩ (.slice (some ⟨T, 0, none⟩) ts.length b)) := by
  have b1 := (Below.refl w.heap.size w).alloc (Nat.le_refl _) (.cells #[.string n, .slice A ts.length c] 24)
  have m1 := made_at w (.cells #[.string n, .slice A ts.length c] 24)
  have z1 : (w.alloc (.cells #[.string n, .slice A ts.length c] 24)).heap.size = w.heap.size + 1 := World.size_alloc _ _
  generalize (w.alloc (.cells #[.string n, .slice A ts.length c] 24)) = W1 at *
  have b2 := (Below.refl W1.heap.size W1).alloc (Nat.le_refl _) (.cells #[.string ⟨#[]⟩, .slice none 0 0] 24)
  have m2 := made_at W1 (.cells #[.string ⟨#[]⟩, .slice none 0 0] 24)
  have z2 : W.heap.size = w.heap.size + 2 := by rw [hW, World.size_alloc, z1]
  rw [← hW] at b2 m2
  rw [z1] at m2
  have hb' := below_step b1 b2
  have hb2 := below_step hb' hb
  have hp := later_at hb (later_at b2 m1)
  refine ⟨hp, hb2.setCell (p := ⟨w.heap.size, 1, none⟩) (Nat.le_refl _) _, by rw [row_set hp]; rfl, by rw [set_other (by omega)]; exact later_at hb m2, hr.same (set_other (by omega)), hl, by omega, hcp, fun i t v ht hv => ?_⟩
  obtain ⟨B, d, e, h1, h2⟩ := ha i t v ht hv
  refine ⟨B, d, e, ?_, h2, fun hl ad he => ?_⟩
  · refine (h1.later hb2).same (fun hl ad he => set_other ?_)
    obtain ⟨ad', e', hc⟩ := h1 hl
    obtain rfl := Option.some.inj (e'.symm.trans he)
    have h5 := block_lt_of_cell (hc 0 _ (List.getElem?_eq_getElem hl))
    rw [add_block] at h5
    omega
  · obtain ⟨ad', e', hc⟩ := h1 hl
    obtain rfl := Option.some.inj (e'.symm.trans he)
    have h5 := block_lt_of_cell (hc 0 _ (List.getElem?_eq_getElem hl))
    rw [add_block] at h5
    exact ⟨fun h => absurd h (Nat.not_lt_zero _), .inl h5⟩
set_option maxHeartbeats 4000000 in
set_option maxRecDepth 100000 in
theorem rclone_is (hA : TksAt w A ts) (h1 : 1 ≤ ts.length) (h8 : ts.length ≤ 8) (h20 : ∀ t ∈ ts, t.after.length ≤ 20) :
    Calls Tryz.prog 34 #[.agg #[.string n, .slice A ts.length c]] w (ClnOut w n ts) := by
  obtain ⟨W0, hW0⟩ : ∃ W0, W0 = (w.alloc (.cells #[.string n, .slice A ts.length c] 24)).alloc (.cells #[.string ⟨#[]⟩, .slice none 0 0] 24) := ⟨_, rfl⟩
  have HW0 := Lib.hid hW0
  have b1 := (Below.refl w.heap.size w).alloc (Nat.le_refl _) (.cells #[.string n, .slice A ts.length c] 24)
  have HB0 := Lib.hid (show Below w.heap.size w W0 from by rw [hW0]; exact below_step b1 ((Below.refl _ _).alloc (Nat.le_refl _) _))
  have HX := Lib.hid (show W0.heap[w.heap.size]? = some (.cells #[.string n, .slice A ts.length c] 24 (0, 0)) from by rw [hW0]; exact later_at ((Below.refl _ _).alloc (Nat.le_refl _) _) (made_at w _))
  have HA := Lib.hid hA
  have H20 := Lib.hid h20
  have H1 := Lib.hid h1
  clear hA b1 h20 h1
  go_enter Tryz.func34, Tryz.ntmps34
  go_upto_region 1 with fail
  rw [← hW0]
  clear hW0
  have x1 := cellH HX.out 1
  simp at x1
  have HC := Lib.hid (tclone_is (c := c) HA.out HB0.out H1.out (by omega))
  go_wp2_with fail
  refine HC.out.mono ?_
  rintro e w1 ⟨T, b, vs, rfl, hr, hl, ha, hcp, hT, hb1⟩
  obtain ⟨hp, hS⟩ := CnS.start HW0.out hb1 hr hl ha hcp hT
  have y1 := cellH hp 1
  have f1 := freeH hp 1
  simp at y1
  have HS := Lib.hid hS
  clear hr hl ha hcp hT hb1 hp hS x1 HC HX HW0 HB0
  go_upto_region 2 with fail
  generalize (w1.setCell ⟨w.heap.size, 1, none⟩ (.slice (some ⟨T, 0, none⟩) ts.length b)) = W1 at *
  clear y1 f1
  have x0 := cellH HS.out.pb 0
  have x1 := cellH HS.out.pb 1
  simp at x0 x1
  go_wp2_with fail
  clear x0 x1
  go_loopw [12] (fun i wr => ∃ (k : Nat) (vs : List Value), i = .int .i64 k ∧ k ≤ ts.length ∧ Hid (CnS w T b n ts k vs wr)) (fun i _ => ts.length - (intOf i).toNat)
  case atStart => exact ⟨0, vs, rfl, Nat.zero_le _, HS⟩
  case round =>
    obtain ⟨k, vs, rfl, hk, HS1⟩ := hrel
    clear HS
    by_cases hlt : k < ts.length
    · obtain ⟨t, ht⟩ : ∃ t, ts[k]? = some t := ⟨_, List.getElem?_eq_getElem hlt⟩
      have hv := List.getElem?_eq_getElem (l := vs) (i := k) (by rw [HS1.out.len]; exact hlt)
      obtain ⟨B, d, e, hN, hd, _⟩ := HS1.out.aft k t _ ht hv
      rw [e] at hv
      clear e
      have hcell : ∀ (j : Nat) u, (tkC t (.slice B t.after.length d))[j]? = some u → wr.cell? ⟨T, k * 7 + j, none⟩ = some u := fun j u hu => HS1.out.row.cell ht hv hu
      have p0 : wr.cell? ⟨T, k * 7, none⟩ = some (.string t.name) := hcell 0 _ rfl
      have p1 := hcell 1 _ rfl
      have p2 := hcell 2 _ rfl
      have p3 := hcell 3 _ rfl
      have p4 := hcell 4 _ rfl
      have p5 := hcell 5 _ rfl
      have p6 := hcell 6 _ rfl
      have HT := Lib.hid ht
      have H2 := Lib.hid (H20.out t (List.mem_of_getElem? ht))
      have HN := Lib.hid hN
      have HD := Lib.hid hd
      have hk0 : (0 : Int) ≤ (k : Int) := by omega
      have hkl : (k : Int) < (ts.length : Int) := by omega
      clear hcell hN hd ht hv
      go_upto_region 5 with fail
      have hbc := (Below.refl wr.heap.size wr).alloc (Nat.le_refl _) (.cells (tkA t B d) 65)
      have hmc := made_at wr (.cells (tkA t B d) 65)
      have HS2 := Lib.hid (HS1.out.later hbc)
      have HN2 := Lib.hid (HN.out.later hbc)
      have HMC := Lib.hid hmc
      have HTC := Lib.hid (show T < wr.heap.size from HS1.out.row.low)
      clear hbc hmc HS1 HN p0 p1 p2 p3 p4 p5 p6
      generalize hW2 : (wr.alloc (.cells (tkA t B d) 65)) = W2 at *
      clear hW2
      generalize wr.heap.size = C at *
      have HS3 := Lib.hid (HS2.out.later (Below.refl _ _).drew)
      have HN3 := Lib.hid (HN2.out.later (Below.refl _ _).drew)
      have HM3 := Lib.hid (later_at (Below.refl W2.heap.size W2).drew HMC.out)
      clear HS2 HN2 HMC
      refine wp_region_noPanic ?_
      refine wp_region_held_drew (S := fun W' => W'.heap[w.heap.size]? = some (.cells #[.string n, .slice (some ⟨T, 0, none⟩) ts.length b] 24 (0, 0)) ∧ W'.heap[C]? = some (.cells (tkA t B d) 65 (0, 0))) (by kernel_rfl) (by exact ⟨HS3.out.pb, HM3.out⟩) (fun hHeld => ?_)
      refine take_yes 0 17 (v := ?_) rfl rfl (by kernel_rfl) (by kernel_rfl) (by kernel_rfl) noPanic_any (by rfl) hHeld ?_ ?_
      rotate_left
      · intro wx hSw; (try dsimp only at hSw); go_simp <;> with_reducible rfl
      simp only [Act.put, List.setIfInBounds_toArray, List.set_cons_zero, List.set_cons_succ]
      refine take_yes 1 18 (v := ?_) rfl rfl (by kernel_rfl) (by kernel_rfl) (by kernel_rfl) noPanic_any (by rfl) hHeld ?_ ?_
      rotate_left
      · intro wx hSw; (try dsimp only at hSw); have y0 := cellH hSw.1 1; simp at y0; go_simp <;> with_reducible rfl
      simp only [Act.put, List.setIfInBounds_toArray, List.set_cons_zero, List.set_cons_succ]
      refine take_yes 2 19 (v := ?_) rfl rfl (by kernel_rfl) (by kernel_rfl) (by kernel_rfl) noPanic_any (by rfl) hHeld ?_ ?_
      rotate_left
      · intro wx hSw; (try dsimp only at hSw); go_simp <;> with_reducible rfl
      simp only [Act.put, List.setIfInBounds_toArray, List.set_cons_zero, List.set_cons_succ]
      refine take_yes 3 20 (v := ?_) rfl rfl (by kernel_rfl) (by kernel_rfl) (by kernel_rfl) noPanic_any (by rfl) hHeld ?_ ?_
      rotate_left
      · intro wx hSw; (try dsimp only at hSw); go_simp <;> with_reducible rfl
      simp only [Act.put, List.setIfInBounds_toArray, List.set_cons_zero, List.set_cons_succ]
      refine take_yes 4 21 (v := ?_) rfl rfl (by kernel_rfl) (by kernel_rfl) (by kernel_rfl) noPanic_any (by rfl) hHeld ?_ ?_
      rotate_left
      · intro wx hSw; (try dsimp only at hSw); have y0 := cellH hSw.2 1; simp at y0; go_simp <;> with_reducible rfl
      simp only [Act.put, List.setIfInBounds_toArray, List.set_cons_zero, List.set_cons_succ]
      generalize W2.drew = W3 at *
      have HP3 := Lib.hid hHeld.1
      have HC3 := Lib.hid hHeld.2
      clear hHeld
      refine one_readyH (i := 5) (by kernel_rfl) (wpOp_step rfl (fun KK hKK => ?_))
      have HKK := Lib.hid hKK
      clear hKK
      go_simp
      refine (nclone_is HN3.out (by have := H2.out; omega) HD.out).mono ?_
      rintro e W4 ⟨B', b', rfl, hN4, hc4, hf4, hb4⟩
      have HS4 := Lib.hid (HS3.out.later hb4)
      have HM4 := Lib.hid (later_at hb4 HC3.out)
      have HS5 := Lib.hid (HS3.out.next HT.out hb4 hN4 hc4 hf4)
      clear hN4 hc4 hf4 hb4
      refine HKK.out _ _ ⟨⟨HS4.out.pb, HM4.out⟩, ?_⟩
      clear HKK KK
      (try simp only [Act.put, List.setIfInBounds_toArray, List.set_cons_zero, List.set_cons_succ])
      refine one_readyH (i := 6) (by kernel_rfl) (wpOp_step rfl (fun KK hKK => ?_))
      have HKK := Lib.hid hKK
      clear hKK
      go_simp
      refine HKK.out _ _ ⟨⟨HS4.out.pb, HM4.out⟩, ?_⟩
      clear HKK KK
      (try simp only [Act.put, List.setIfInBounds_toArray, List.set_cons_zero, List.set_cons_succ])
      refine one_readyH (i := 7) (by kernel_rfl) (wpOp_step rfl (fun KK hKK => ?_))
      have HKK := Lib.hid hKK
      clear hKK
      go_simp
      refine HKK.out _ _ ⟨⟨HS4.out.pb, HM4.out⟩, ?_⟩
      clear HKK KK
      (try simp only [Act.put, List.setIfInBounds_toArray, List.set_cons_zero, List.set_cons_succ])
      refine one_readyH (i := 8) (by kernel_rfl) (wpOp_step rfl (fun KK hKK => ?_))
      have HKK := Lib.hid hKK
      clear hKK
      have zf := HS4.out.row.free (k * 7 + 1)
      obtain ⟨zu, zc⟩ : ∃ u, W4.cell? ⟨T, k * 7 + 1, none⟩ = some u := ⟨_, HS4.out.row.cell HT.out (List.getElem?_eq_getElem (by rw [HS4.out.len]; exact hlt)) (j := 1) rfl⟩
      go_simp
      refine HKK.out _ _ ⟨⟨HS5.out.pb, ?_⟩, ?_⟩
      · rw [set_other (by have := HTC.out; omega)]
        exact HM4.out
      clear HKK KK zf zc
      refine wpAnyH_done (by kernel_rfl) ?_ _
      refine NoPanic.normal ?_
      go_wp2_with fail
      go_roundw
      case rel => exact ⟨k + 1, _, by go_num, by omega, HS5⟩
      case measure => simp [intOf]; omega
    · obtain rfl : k = ts.length := by omega
      have hlk : ¬ (ts.length : Int) < (ts.length : Int) := by omega
      have x0 := cellH HS1.out.pb 0
      have x1 := cellH HS1.out.pb 1
      have z0 := cellH HS1.out.rb 0
      have z1 := cellH HS1.out.rb 1
      have f0 := freeH HS1.out.rb
      simp at x0 x1 z0 z1
      have HE := Lib.hid (HS1.out.done (.string n) (.slice (some ⟨T, 0, none⟩) ts.length b))
      have HR := Lib.hid HS1.out.rb
      go_wp2_with fail
      exact bodyPost_ret (results_cell_row (fn := Tryz.f34) rfl _ _ (w.heap.size + 1) 24 #[.string n, .slice (some ⟨T, 0, none⟩) ts.length b] (0, 0) _ rfl (by rw [row_set (row_set HR.out)]; rfl) Tryz.underlying24 rfl info_pipe2) rfl HE.out
end
end Go.Proofs.YtfjaibaidpbppaaGreatDoor
