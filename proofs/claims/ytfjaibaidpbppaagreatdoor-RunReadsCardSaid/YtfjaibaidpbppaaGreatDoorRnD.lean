/-
  RunReads over what the program's runs do. Conditions: what the library's variables hold. Runs in plain words: settled at one time and then at a later one; numbers that stay small. No program is named here. What the program's order finds ahead of a task is all that it comes behind; so it tells of a round just if there is one. No program is named here.
-/
import Derived.Test.YtfjaibaidpbppaaGreatDoorOrdM
import Derived.Test.YtfjaibaidpbppaaGreatDoorGtWr
import Derived.Test.YtfjaibaidpbppaaGreatDoorRnP
import Derived.Test.YtfjaibaidpbppaaGreatDoorOrdX
import Derived.Test.YtfjaibaidpbppaaGreatDoorLsOk
namespace Go.Proofs.YtfjaibaidpbppaaGreatDoor
open Go.RowKit

theorem ba_front (t T : ByteArray) : (t ++ T).extract 0 t.size = t := by
  apply bl_inj
  show ((t ++ T).extract 0 t.size).data.toList = t.data.toList
  rw [ByteArray.data_extract, ByteArray.data_append, Array.toList_extract, Array.toList_append]
  have h : t.size = t.data.toList.length := (Array.length_toList (xs := t.data)).symm
  rw [h]
  show List.take (_ - 0) (List.drop 0 _) = _
  rw [List.drop_zero, Nat.sub_zero, List.take_left]
/-- The laws' first line. -/
def AwkR : Prop := ∀ (W : World), VarsAt W → Calls Tryz.prog 6 #[] W fun e w' => e = .returned (.bool true) ∧ Below W.heap.size W w'
set_option maxHeartbeats 4000000 in
set_option maxRecDepth 100000 in
theorem runreads_true {A : RnAt} (C : RunOk A) (K : AwkR) {w : World} (hV : VarsAt w) (s : ByteArray) : Calls Tryz.prog 4 #[.string s] w fun e w' => e = .returned (.bool true) ∧ Below w.heap.size w w' := by
  have HC := Lib.hid C
  have HK := Lib.hid K
  have HV := Lib.hid hV
  clear C K hV
  go_enter Tryz.func4, Tryz.ntmps4
  go_wp2_with fail
  refine (HK.out _ HV.out).mono ?_
  rintro e w1 ⟨rfl, hb1⟩
  have HV1 := Lib.hid (HV.out.later hb1)
  have HB1 := Lib.hid hb1
  clear hb1
  by_cases hs : (2000 : Int) < (s.size : Int)
  · go_wp2_with fail
    refine (HK.out _ HV1.out).mono ?_
    rintro e w2 ⟨rfl, hb2⟩
    have HB2 := Lib.hid (below_step HB1.out hb2)
    clear hb2
    go_wp2_with fail
    go_ret
    exact ⟨rfl, HB2.out⟩
  go_wp2_with fail
  refine (new_is s _).mono ?_
  rintro e w2 ⟨Q, rfl, hQ, hr2, hb2⟩
  have HV2 := Lib.hid (HV1.out.later hb2)
  have HB2 := Lib.hid (below_step HB1.out hb2)
  have HR2 := Lib.hid hr2
  have HQ := Lib.hid (show w.heap.size ≤ Q from Nat.le_trans HB1.out.size hQ)
  clear hr2 hb2 hQ
  go_wp2_with fail
  refine (HC.out.read HR2.out HV2.out (by omega)).mono ?_
  rintro e w3 ⟨r, S', b, hr3, ho3, hd, hno, hyes⟩
  have HR3 := Lib.hid hr3
  have HB3 := Lib.hid (Only1.low HB2.out ho3 HQ.out)
  have HV3 := Lib.hid (HV2.out.rd HR2.out ho3)
  cases r with
  | none =>
    obtain rfl : b = true := hd.none_ rfl
    obtain rfl := hno rfl
    clear hr3 ho3 hd hno hyes
    go_wp2_with fail
    refine (rd_ok HR3.out).mono ?_
    rintro e w4 ⟨rfl, hb4⟩
    have HB4 := Lib.hid (below_step HB3.out hb4)
    clear hb4
    go_wp2_with fail
    go_ret
    exact ⟨rfl, HB4.out⟩
  | some z =>
    obtain ⟨R, M, X, rfl, hA, _⟩ := hyes z rfl
    obtain ⟨hb, hS, hz⟩ := hd.some_ z rfl
    subst hb
    have HA := Lib.hid hA
    have HZ := Lib.hid hz
    obtain ⟨t, ht⟩ : ∃ t, t = textR z := ⟨_, rfl⟩
    have HT := Lib.hid ht
    rw [← ht] at hS
    have HLE := Lib.hid (show t.size ≤ s.size from by rw [hS, ByteArray.size_append]; omega)
    have HEX := Lib.hid (show s.extract 0 t.size = t from by rw [hS]; exact ba_front t S')
    have HTX := Lib.hid (show Calls Tryz.prog 17 #[ptrV R] w3 (fun e W' => e = .returned (.string t) ∧ Below w3.heap.size w3 W') from by rw [ht]; exact rtext_is HC.out hA hz.inn HV3.out)
    clear hr3 ho3 hd hno hyes hA hz hS ht
    go_wp2_with fail
    refine HTX.out.mono ?_
    rintro e w4 ⟨rfl, hb4⟩
    have HB4 := Lib.hid (below_step HB3.out hb4)
    have HR4 := Lib.hid (HR3.out.below hb4)
    have HA4 := Lib.hid (HC.out.later HA.out hb4)
    clear hb4
    go_wp2_with fail
    refine (rd_ok HR4.out).mono ?_
    rintro e w5 ⟨rfl, hb5⟩
    have HB5 := Lib.hid (below_step HB4.out hb5)
    have HA5 := Lib.hid (HC.out.later HA4.out hb5)
    clear hb5
    have l1 : (t.size : Int) ≤ (s.size : Int) := by have := HLE.out; omega
    have l0 : (0 : Int) ≤ (t.size : Int) := by omega
    have e1 : ((s.extract 0 t.size).toList == t.toList) = true := by rw [HEX.out]; simp
    go_wp2_with fail
    refine (HC.out.pipe HA5.out HZ.out.inn).mono ?_
    rintro e w6 ⟨B, c, rfl, hT, hb6⟩
    have HT6 := Lib.hid hT
    have HB6 := Lib.hid (below_step HB5.out hb6)
    clear hT hb6 e1 l0 l1
    go_wp2_with fail
    refine (refmay_yes HT6.out HZ.out.may).mono ?_
    rintro e w7 ⟨rfl, hb7⟩
    have HB7 := Lib.hid (below_step HB6.out hb7)
    clear hb7
    go_wp2_with fail
    go_ret
    exact ⟨rfl, HB7.out⟩
end Go.Proofs.YtfjaibaidpbppaaGreatDoor

namespace Go.Proofs.YtfjaibaidpbppaaGreatDoor
open Go.RowKit

theorem zip_get {α β γ : Type} {f : α → β → γ} : ∀ (us : List α) (bs : List β), us.length = bs.length → (List.zipWith f us bs).length = bs.length
  | [], [], _ => rfl
  | a :: us, b :: bs, h => by simp only [List.zipWith_cons_cons, List.length_cons]; rw [zip_get us bs (by simpa using h)]
theorem zip_mem {α β γ : Type} {f : α → β → γ} {P : β → Prop} {Q : γ → Prop} : ∀ (us : List α) (bs : List β), (∀ a ∈ us, ∀ b ∈ bs, P b → Q (f a b)) → (∀ b ∈ bs, P b) → ∀ c ∈ List.zipWith f us bs, Q c
  | [], _, _, _, c, hc => by simp at hc
  | _ :: _, [], _, _, c, hc => by simp at hc
  | a :: us, b :: bs, h, hp, c, hc => by
    rw [List.zipWith_cons_cons] at hc
    rcases List.mem_cons.1 hc with rfl | hc
    · exact h a (List.mem_cons_self ..) b (List.mem_cons_self ..) (hp b (List.mem_cons_self ..))
    · exact zip_mem us bs (fun a ha b hb => h a (List.mem_cons_of_mem _ ha) b (List.mem_cons_of_mem _ hb)) (fun b hb => hp b (List.mem_cons_of_mem _ hb)) c hc
theorem zip_zip {α β : Type} {f g : α → β → β} {P : β → Prop} : ∀ (us : List α) (bs : List β), (∀ a b, P (f a b) → g a (f a b) = g a b) → (∀ c ∈ List.zipWith f us bs, P c) → List.zipWith g us (List.zipWith f us bs) = List.zipWith g us bs
  | [], _, _, _ => by simp
  | _ :: _, [], _, _ => by simp
  | a :: us, b :: bs, h, hp => by
    rw [List.zipWith_cons_cons] at hp
    rw [List.zipWith_cons_cons, List.zipWith_cons_cons, List.zipWith_cons_cons, h a b (hp _ (List.mem_cons_self ..)), zip_zip us bs h (fun c hc => hp c (List.mem_cons_of_mem _ hc))]
/-! How it stands. -/
theorem stat_run {z : RunP} : statR z = 0 ↔ z.over = false ∧ (∀ p ∈ z.ps, p.tr.st ≠ 4) ∧ ∃ p ∈ z.ps, p.tr.st ≠ 3 := by
  unfold statR
  cases h : z.over with
  | true => simp
  | false =>
    simp only [Bool.false_eq_true, if_false, true_and]
    by_cases h4 : (z.ps.any fun p => p.tr.st == 4) = true
    · rw [if_pos h4]
      obtain ⟨p, hp, h1⟩ := List.any_eq_true.1 h4
      simp only [show ¬ (2 : Int) = 0 by decide, false_iff]
      intro ⟨hn, _⟩
      exact hn p hp (by simpa using h1)
    · rw [if_neg h4]
      have h4' : ∀ p ∈ z.ps, p.tr.st ≠ 4 := fun p hp e => h4 (List.any_eq_true.2 ⟨p, hp, by simpa using e⟩)
      by_cases h3 : (z.ps.all fun p => p.tr.st == 3) = true
      · rw [if_pos h3]
        simp only [show ¬ (1 : Int) = 0 by decide, false_iff]
        intro ⟨_, p, hp, hn⟩
        exact hn (by simpa using List.all_eq_true.1 h3 p hp)
      · rw [if_neg h3]
        refine iff_of_true rfl ⟨h4', ?_⟩
        have := List.all_eq_false.1 (Bool.eq_false_iff.2 h3)
        obtain ⟨p, hp, hn⟩ := this
        exact ⟨p, hp, by simpa using hn⟩
theorem stat_fail {z : RunP} (h : z.over = false) {p : PlP} (hp : p ∈ z.ps) (h4 : p.tr.st = 4) : statR z = 2 := by
  unfold statR
  rw [h]
  simp only [Bool.false_eq_true, if_false]
  rw [if_pos (List.any_eq_true.2 ⟨p, hp, by simpa using h4⟩)]
theorem set_not {z : RunP} {now : Int} (h : statR z ≠ 0) : setR z now = z := by unfold setR; rw [if_neg h]
theorem set_run {z : RunP} {now : Int} (h : statR z = 0) : setR z now = { z with ps := List.zipWith (setPl now) z.ts z.ps } := by unfold setR; rw [if_pos h]
theorem settle_three {t : TrP} {a r : Int} (h : (settleP t a r).st = 3) : t.st = 3 := by
  unfold settleP at h
  split at h
  · rename_i h2
    unfold missP at h
    rw [if_neg (by simp [h2.1])] at h
    split at h <;> simp at h
  · exact h
theorem pl_three {now : Int} {t : TkP} {p : PlP} (h : (setPl now t p).tr.st = 3) : p.tr.st = 3 := by
  unfold setPl at h
  split at h
  · exact settle_three h
  · split at h
    · simp at h
    · exact h
theorem settle_four {t : TrP} {a b r : Int} (hab : a ≤ b) (h : (settleP t a r).st = 4) : (settleP t b r).st = 4 := by
  by_cases h1 : t.st = 2 ∧ t.un ≤ a
  · have e1 : settleP t a r = missP t t.un r := by unfold settleP; rw [if_pos h1]
    have e2 : settleP t b r = missP t t.un r := by unfold settleP; rw [if_pos ⟨h1.1, by omega⟩]
    rw [e2, ← e1]
    exact h
  · have e1 : settleP t a r = t := by unfold settleP; rw [if_neg h1]
    rw [e1] at h
    have e2 : settleP t b r = t := by unfold settleP; rw [if_neg (by omega)]
    rw [e2]
    exact h
theorem pl_four {a b : Int} {t : TkP} {p : PlP} (hab : a ≤ b) (h : (setPl a t p).tr.st = 4) : (setPl b t p).tr.st = 4 := by
  unfold setPl at h ⊢
  split at h
  · rename_i h0
    rw [if_pos h0]
    exact settle_four hab h
  · rename_i h0
    rw [if_neg h0]
    split at h
    · rename_i h1
      rw [if_pos ⟨h1.1, by omega⟩]
    · split
      · rfl
      · exact h
theorem pl_later {a b : Int} {t : TkP} {p : PlP} (hab : a ≤ b) (h : (setPl a t p).tr.st ≠ 4) : setPl b t (setPl a t p) = setPl b t p := by
  unfold setPl at h ⊢
  by_cases h0 : t.need = 0
  · simp only [if_pos h0]
    rw [settle_later t.retry hab]
  · simp only [if_neg h0] at h ⊢
    by_cases h1 : p.tr.st = 1 ∧ p.tr.sn + t.time ≤ a
    · rw [if_pos h1] at h
      exact absurd rfl h
    · rw [if_neg h1]
/-- SETTLED AT ONE TIME, and then at a later one, us long us it hasn't ended on the way. -/
theorem set_later {z : RunP} {a b : Int} (hab : a ≤ b) (h : statR (setR z a) = 0) : setR (setR z a) b = setR z b := by
  by_cases h0 : statR z = 0
  · rw [set_run h, set_run h0, set_run h0]
    rw [set_run h0] at h
    have h4 : ∀ p ∈ List.zipWith (setPl a) z.ts z.ps, p.tr.st ≠ 4 := (stat_run.1 h).2.1
    have hz := zip_zip (f := setPl a) (g := setPl b) (P := fun p => p.tr.st ≠ 4) z.ts z.ps (fun t p => pl_later hab) h4
    simp only
    rw [hz]
  · rw [set_not h0]
/-- Where it has ended on the way it stands the same. -/
theorem set_ended {z : RunP} {a b : Int} (hl : z.ts.length = z.ps.length) (hab : a ≤ b) (h : statR (setR z a) ≠ 0) : statR (setR (setR z a) b) = statR (setR z b) := by
  rw [set_not h]
  by_cases h0 : statR z = 0
  · have ho := (stat_run.1 h0).1
    rw [set_run h0, set_run h0]
    rw [set_run h0] at h
    have key : ∃ c ∈ List.zipWith (setPl a) z.ts z.ps, c.tr.st = 4 := Classical.byContradiction fun hno => by
      have hno' : ∀ c ∈ List.zipWith (setPl a) z.ts z.ps, c.tr.st ≠ 4 := fun c hc e => hno ⟨c, hc, e⟩
      refine h (stat_run.2 ⟨ho, hno', ?_⟩)
      refine Classical.byContradiction fun h3 => ?_
      have h3' : ∀ c ∈ List.zipWith (setPl a) z.ts z.ps, c.tr.st = 3 := fun c hc => Classical.byContradiction fun e => h3 ⟨c, hc, e⟩
      obtain ⟨p, hp, hp3⟩ := (stat_run.1 h0).2.2
      obtain ⟨i, hi, rfl⟩ := List.getElem_of_mem hp
      have hi' : i < z.ts.length := by omega
      have hm : setPl a z.ts[i] z.ps[i] ∈ List.zipWith (setPl a) z.ts z.ps := List.mem_iff_getElem.2 ⟨i, by rw [zip_get _ _ hl]; exact hi, by rw [List.getElem_zipWith]⟩
      exact hp3 (pl_three (h3' _ hm))
    obtain ⟨c, hc, h4⟩ := key
    obtain ⟨i, hi, rfl⟩ := List.getElem_of_mem hc
    rw [List.getElem_zipWith] at h4
    have hi2 : i < (List.zipWith (setPl b) z.ts z.ps).length := by
      rw [List.length_zipWith] at hi ⊢
      exact hi
    rw [stat_fail (z := { z with ps := List.zipWith (setPl a) z.ts z.ps }) (p := (List.zipWith (setPl a) z.ts z.ps)[i]) ho (List.getElem_mem hi) (by rw [List.getElem_zipWith]; exact h4)]
    rw [stat_fail (z := { z with ps := List.zipWith (setPl b) z.ts z.ps }) (p := (List.zipWith (setPl b) z.ts z.ps)[i]) ho (List.getElem_mem hi2) (by rw [List.getElem_zipWith]; exact pl_four hab h4)]
  · rw [set_not h0, set_not h0]
/-! Numbers stay small. -/
theorem trIn_of {b m st sn ms wk ls un : Int} (h1 : 0 ≤ st ∧ st ≤ 4) (h2 : 0 ≤ sn ∧ sn ≤ b) (h3 : 0 ≤ ms ∧ ms ≤ m) (h4 : 0 ≤ wk ∧ wk ≤ 1000000) (h5 : 0 ≤ ls ∧ ls ≤ 1000000) (h6 : 0 ≤ un ∧ un ≤ b) : TrIn b m ⟨st, sn, ms, wk, ls, un⟩ := ⟨h1, h2, h3, h4, h5, h6⟩
theorem TrIn.zero {b m : Int} (hb : 0 ≤ b) (hm : 0 ≤ m) : TrIn b m noTr := ⟨by decide, ⟨by decide, hb⟩, ⟨by decide, hm⟩, by decide, by decide, ⟨by decide, hb⟩⟩
section
variable {b m now : Int} {t : TrP}
theorem TrIn.open_ (h : TrIn b m t) (h0 : 0 ≤ now) (h1 : now ≤ b) : TrIn b m (openP t now) := by
  unfold openP
  split
  · exact trIn_of (by decide) ⟨h0, h1⟩ h.ms h.wk h.ls h.un
  · exact h
theorem TrIn.miss {r : Int} (h : TrIn b m t) (h0 : 0 ≤ now) (h1 : now ≤ b) : TrIn (b + m + 1) (m + 1) (missP t now r) := by
  have hs := h.sn
  have hm := h.ms
  have hu := h.un
  unfold missP
  split
  · exact h.mono (by omega) (by omega)
  · split
    · exact trIn_of (by decide) ⟨by omega, by omega⟩ ⟨by omega, by omega⟩ (by decide) (by decide) ⟨by omega, by omega⟩
    · exact trIn_of (by decide) ⟨by omega, by omega⟩ ⟨by omega, by omega⟩ (by decide) (by decide) ⟨by omega, by omega⟩
theorem TrIn.settle {r : Int} (h : TrIn b m t) : TrIn (b + m + 1) (m + 1) (settleP t now r) := by
  have hm := h.ms
  have hs := h.sn
  unfold settleP
  split
  · exact h.miss h.un.1 h.un.2
  · exact h.mono (by omega) (by omega)
theorem TrIn.failed (h : TrIn b m t) : TrIn b m ⟨4, 0, t.ms, 0, 0, 0⟩ := by
  have hs := h.sn
  exact trIn_of (by decide) ⟨by omega, by omega⟩ h.ms (by decide) (by decide) ⟨by omega, by omega⟩
theorem TrIn.done (h : TrIn b m t) : TrIn b m (doneP t) := by
  have hs := h.sn
  unfold doneP
  split
  · exact trIn_of (by decide) ⟨by omega, by omega⟩ h.ms (by decide) (by decide) ⟨by omega, by omega⟩
  · exact h
theorem TrIn.take {wk ls time : Int} (h : TrIn b m t) (hw : 0 ≤ wk ∧ wk ≤ 1000000) (hl : 0 ≤ ls ∧ ls ≤ 1000000) (h0 : 0 ≤ now + time) (h1 : now + time ≤ b) : TrIn b m (takeP t now wk ls time).1 := by
  have hs := h.sn
  have hm := h.ms
  unfold takeP
  split
  · exact TrIn.zero (by omega) (by omega)
  · exact trIn_of (by decide) ⟨by omega, by omega⟩ h.ms hw hl ⟨h0, h1⟩
theorem TrIn.beat {time : Int} (h : TrIn b m t) (h0 : 0 ≤ now + time) (h1 : now + time ≤ b) : TrIn b m (beatP t now time) := by
  unfold beatP
  split
  · exact ⟨h.st, h.sn, h.ms, h.wk, h.ls, ⟨h0, h1⟩⟩
  · exact h
end
section
variable {b m now : Int} {z : RunP}
theorem RunIn.pl_in (h : RunIn b m z) (hb : 0 ≤ b) (hm : 0 ≤ m) (i : Nat) : TrIn b m (z.pl i).tr ∧ (z.pl i).out.size ≤ 32 ∧ RisL (z.pl i).yes := by
  unfold RunP.pl
  rw [List.getD_eq_getElem?_getD]
  cases e : z.ps[i]? with
  | none => exact ⟨TrIn.zero hb hm, by decide, RisL.nil⟩
  | some p => exact ⟨h.tr p (List.mem_of_getElem? e), h.out p (List.mem_of_getElem? e), h.ris p (List.mem_of_getElem? e)⟩
theorem RunIn.put (h : RunIn b m z) {i : Nat} {p : PlP} (h1 : TrIn b m p.tr) (h2 : p.out.size ≤ 32) (h3 : RisL p.yes) : RunIn b m (z.put i p) := by
  have hp : ∀ {P : PlP → Prop}, (∀ q ∈ z.ps, P q) → P p → ∀ q ∈ z.ps.set i p, P q := fun ha hb q hq => by
    rcases List.mem_or_eq_of_mem_set hq with h | h
    · exact ha q h
    · rw [h]; exact hb
  exact ⟨h.may, by show (z.ps.set i p).length = _; rw [List.length_set]; exact h.len, hp h.tr h1, hp h.out h2, hp h.ris h3⟩
theorem adv_pl {ps : List PlP} {t : TkP} {p : PlP} : (advPl ps now t p).out = p.out ∧ (advPl ps now t p).yes = p.yes := by
  unfold advPl
  split <;> exact ⟨rfl, rfl⟩
theorem RunIn.adv (h : RunIn b m z) (h0 : 0 ≤ now) (h1 : now ≤ b) : RunIn b m (advR z now) := by
  refine ⟨h.may, ?_, ?_, ?_, ?_⟩
  · show (List.zipWith _ z.ts z.ps).length = _
    rw [zip_get _ _ h.len.symm]
    exact h.len
  · exact zip_mem z.ts z.ps (fun t _ p _ hp => by unfold advPl; split; exact TrIn.open_ hp h0 h1; exact hp) h.tr
  · exact zip_mem z.ts z.ps (fun t _ p _ hp => by rw [adv_pl.1]; exact hp) h.out
  · exact zip_mem z.ts z.ps (fun t _ p _ hp => by rw [adv_pl.2]; exact hp) h.ris
theorem set_pl {t : TkP} {p : PlP} : (setPl now t p).out = p.out ∧ (setPl now t p).yes = p.yes := by
  unfold setPl
  split
  · exact ⟨rfl, rfl⟩
  · split <;> exact ⟨rfl, rfl⟩
theorem RunIn.set_ (h : RunIn b m z) (hm : 0 ≤ m) : RunIn (b + m + 1) (m + 1) (setR z now) := by
  by_cases h0 : statR z = 0
  · rw [set_run h0]
    refine ⟨h.may, ?_, ?_, ?_, ?_⟩
    · show (List.zipWith _ z.ts z.ps).length = _
      rw [zip_get _ _ h.len.symm]
      exact h.len
    · exact zip_mem z.ts z.ps (fun t _ p _ hp => by
        unfold setPl
        split
        · exact hp.settle
        · split
          · exact hp.failed.mono (by omega) (by omega)
          · exact hp.mono (by omega) (by omega)) h.tr
    · exact zip_mem z.ts z.ps (fun t _ p _ hp => by rw [set_pl.1]; exact hp) h.out
    · exact zip_mem z.ts z.ps (fun t _ p _ hp => by rw [set_pl.2]; exact hp) h.ris
  · rw [set_not h0]
    exact h.mono (by omega) (by omega)
theorem MayP.time {n : ByteArray} {ts : List TkP} (h : MayP n ts) (i : Nat) : 0 ≤ (ts.getD i noTk).time ∧ (ts.getD i noTk).time ≤ 100 := by
  rw [List.getD_eq_getElem?_getD]
  cases e : ts[i]? with
  | none => exact ⟨by decide, by decide⟩
  | some t => have := (h.right.task t (List.mem_of_getElem? e)).time; exact ⟨by show 0 ≤ t.time; omega, this.2⟩
theorem RunIn.take {i wk ls : Int} (h : RunIn b m z) (hm : 0 ≤ m) (hw : 0 ≤ wk ∧ wk ≤ 1000000) (hl : 0 ≤ ls ∧ ls ≤ 1000000) (h0 : 0 ≤ now) (h1 : now + 100 ≤ b) : RunIn b m (takeR z i now wk ls).1 := by
  have ht := h.may.time i.toNat
  have hp := h.pl_in (by omega) hm i.toNat
  unfold takeR
  split
  · exact h
  · simp only
    split
    · exact h
    · exact h.put (TrIn.take hp.1 hw hl (by have := ht.1; unfold RunP.tk; omega) (by have := ht.2; unfold RunP.tk; omega)) hp.2.1 hp.2.2
theorem RunIn.comp {i : Int} {s : ByteArray} (h : RunIn b m z) (hm : 0 ≤ m) (h0 : 0 ≤ now) (h1 : now ≤ b) : RunIn b m (compR z i now s).1 := by
  have hp := h.pl_in (by omega) hm i.toNat
  unfold compR
  split
  · exact h
  · split
    · exact h
    · rename_i h32
      exact (h.put (p := { z.pl i.toNat with tr := doneP (z.pl i.toNat).tr, out := s }) hp.1.done (by show s.size ≤ 32; omega) hp.2.2).adv h0 h1
theorem RunIn.miss {i : Int} (h : RunIn b m z) (hm : 0 ≤ m) (h0 : 0 ≤ now) (h1 : now ≤ b) : RunIn (b + m + 1) (m + 1) (missR z i now).1 := by
  have hp := h.pl_in (by omega) hm i.toNat
  unfold missR
  split
  · exact h.mono (by omega) (by omega)
  · exact (h.mono (by omega) (by omega)).put (hp.1.miss h0 h1) hp.2.1 hp.2.2
theorem RunIn.new_ {n : ByteArray} {ts : List TkP} (h : MayP n ts) (h0 : 0 ≤ now) (h1 : now ≤ b) : RunIn b 0 (newR n ts now) := by
  refine RunIn.adv ⟨h, by simp, fun p hp => ?_, fun p hp => ?_, fun p hp => ?_⟩ h0 h1
  · rw [(List.mem_replicate.1 hp).2]
    exact TrIn.zero (by omega) (by decide)
  · rw [(List.mem_replicate.1 hp).2]
    decide
  · rw [(List.mem_replicate.1 hp).2]
    exact RisL.nil
end
end Go.Proofs.YtfjaibaidpbppaaGreatDoor

namespace Go.Proofs.YtfjaibaidpbppaaGreatDoor
open Go.RowKit

theorem aftN_is {ts : List TkP} {i : Nat} {t : TkP} (h : ts[i]? = some t) : aftN ts i = t.after := by
  unfold aftN
  rw [List.getD_eq_getElem?_getD, h]
  rfl
theorem aftN_beh {ts : List TkP} {i p : Nat} (h : p ∈ aftN ts i) : Beh ts i p := by
  unfold aftN at h
  rw [List.getD_eq_getElem?_getD] at h
  cases e : ts[i]? with
  | none => rw [e] at h; simp at h
  | some t => rw [e] at h; exact .one e h
theorem down_sub {ts : List TkP} : ∀ (f i : Nat) (l : List Nat), ∀ x ∈ l, x ∈ downP ts f i l := by
  intro f
  induction f with
  | zero => exact fun i l x h => h
  | succ f ih =>
    intro i l x h
    unfold downP
    refine foldl_inv (P := fun b => x ∈ b) (aftN ts i) (fun b hb p _ => ?_) l h
    by_cases hc : b.contains p = true
    · rw [if_pos hc]; exact hb
    · rw [if_neg hc]; exact ih p _ x (List.mem_append.2 (.inl hb))
theorem down_so {ts : List TkP} : ∀ (f i : Nat) (l : List Nat), ∀ x ∈ downP ts f i l, x ∈ l ∨ Beh ts i x := by
  intro f
  induction f with
  | zero => exact fun i l x h => .inl h
  | succ f ih =>
    intro i l x h
    unfold downP at h
    refine foldl_inv (P := fun b => ∀ x ∈ b, x ∈ l ∨ Beh ts i x) (aftN ts i) (fun b hb p hp x hx => ?_) l (fun x hx => .inl hx) x h
    by_cases hc : b.contains p = true
    · rw [if_pos hc] at hx; exact hb x hx
    · rw [if_neg hc] at hx
      rcases ih p _ x hx with h1 | h1
      · rcases List.mem_append.1 h1 with h2 | h2
        · exact hb x h2
        · rw [List.mem_singleton.1 h2]; exact .inr (aftN_beh hp)
      · exact .inr ((aftN_beh hp).trans h1)
/-- All that is new in b has what is ahead of it in b. -/
def Shut (ts : List TkP) (l b : List Nat) : Prop := ∀ y ∈ b, y ∉ l → ∀ p ∈ aftN ts y, p ∈ b
theorem foldl_seen {α β : Type} {P : β → Prop} {f : β → α → β} {Q : β → α → Prop} : ∀ (xs : List α), (∀ b x, x ∈ xs → P b → P (f b x) ∧ Q (f b x) x) → (∀ b x y, y ∈ xs → P b → Q b x → Q (f b y) x) → ∀ b, P b → P (xs.foldl f b) ∧ ∀ x ∈ xs, Q (xs.foldl f b) x
  | [], _, _, b, hb => ⟨hb, fun x hx => by cases hx⟩
  | y :: xs, h, hk, b, hb => by
    have h1 := h b y (List.mem_cons_self ..) hb
    have ih := foldl_seen xs (fun b x hx => h b x (List.mem_cons_of_mem _ hx)) (fun b x y hy => hk b x y (List.mem_cons_of_mem _ hy)) (f b y) h1.1
    have keep : ∀ (zs : List α), (∀ z ∈ zs, z ∈ xs) → ∀ b, P b → Q b y → P (zs.foldl f b) → Q (zs.foldl f b) y := by
      intro zs
      induction zs with
      | nil => exact fun _ b _ hq _ => hq
      | cons z zs ihz =>
        intro hz b hpb hq hp
        have hz' := hz z (List.mem_cons_self ..)
        exact ihz (fun a ha => hz a (List.mem_cons_of_mem _ ha)) (f b z) (h b z (List.mem_cons_of_mem _ hz') hpb).1 (hk b y z (List.mem_cons_of_mem _ hz') hpb hq) hp
    refine ⟨ih.1, fun x hx => ?_⟩
    rcases List.mem_cons.1 hx with rfl | hx
    · exact keep xs (fun z hz => hz) _ h1.1 h1.2 ih.1
    · exact ih.2 x hx
theorem down_all {ts : List TkP} {n : Nat} (ha : ∀ i, ∀ x ∈ aftN ts i, x < n) : ∀ (f i : Nat) (l : List Nat), Once n l → n + 1 ≤ f + l.length → (∀ p ∈ aftN ts i, p ∈ downP ts f i l) ∧ Shut ts l (downP ts f i l) := by
  intro f
  induction f with
  | zero =>
    intro i l hl hf
    have := hl.len
    omega
  | succ f ih =>
    intro i l hl hf
    have key := foldl_seen (P := fun b => Once n b ∧ l.length ≤ b.length ∧ (∀ x ∈ l, x ∈ b) ∧ Shut ts l b) (Q := fun b p => p ∈ b) (f := fun l p => if l.contains p then l else downP ts f p (l ++ [p])) (aftN ts i)
      (fun b p hp hb => by
        by_cases hc : b.contains p = true
        · rw [if_pos hc]; exact ⟨hb, by simpa using hc⟩
        · rw [if_neg hc]
          have hon := hb.1.more (ha i p hp) (Bool.eq_false_iff.2 hc)
          have hdo := downP_once ha f p _ hon
          have hi := ih p (b ++ [p]) hon (by rw [List.length_append, List.length_singleton]; have := hb.2.1; omega)
          have hlen := hdo.2
          rw [List.length_append] at hlen
          refine ⟨⟨hdo.1, by have := hb.2.1; omega, fun x hx => down_sub f p _ x (List.mem_append.2 (.inl (hb.2.2.1 x hx))), fun y hy hyl q hq => ?_⟩, down_sub f p _ p (List.mem_append.2 (.inr (List.mem_singleton.2 rfl)))⟩
          by_cases hyb : y ∈ b
          · exact down_sub f p _ q (List.mem_append.2 (.inl (hb.2.2.2 y hyb hyl q hq)))
          by_cases hyp : y = p
          · rw [hyp] at hq; exact hi.1 q hq
          · exact hi.2 y hy (fun hm => by rcases List.mem_append.1 hm with h | h; exact hyb h; exact hyp (List.mem_singleton.1 h)) q hq)
      (fun b p q hq hb hp => by
        by_cases hc : b.contains q = true
        · rw [if_pos hc]; exact hp
        · rw [if_neg hc]; exact down_sub f q _ p (List.mem_append.2 (.inl hp))) l ⟨hl, Nat.le_refl _, fun x hx => hx, fun y hy hyl => absurd hy hyl⟩
    exact ⟨key.2, key.1.2.2.2⟩
theorem up_is {ts : List TkP} (ha : ∀ i, ∀ x ∈ aftN ts i, x < ts.length) (i x : Nat) : x ∈ upP ts i ↔ Beh ts i x := by
  have h := down_all ha (ts.length + 1) i [] ⟨(fun x hx => by cases hx), List.nodup_nil⟩ (by simp)
  constructor
  · intro hx
    exact (down_so _ _ _ x hx).resolve_left (by simp)
  · have go : ∀ {a b : Nat}, Beh ts a b → (∀ p ∈ aftN ts a, p ∈ upP ts i) → b ∈ upP ts i := by
      intro a b hb
      induction hb with
      | one h1 h2 => intro hp; exact hp _ (by rw [aftN_is h1]; exact h2)
      | more h1 h2 _ ihb => intro hp; exact ihb (h.2 _ (hp _ (by rw [aftN_is h1]; exact h2)) (by simp))
    exact fun hb => go hb h.1
/-- NO ROUND. -/
theorem round_no {n : ByteArray} {ts : List TkP} (hp : RightPi ⟨n, ts⟩) : roundP ⟨n, ts⟩ < 0 ↔ ∀ i, ¬ Beh ts i i := by
  have ha : ∀ i, ∀ x ∈ aftN ts i, x < ts.length := fun i x hx => by
    unfold aftN at hx
    rw [List.getD_eq_getElem?_getD] at hx
    cases e : ts[i]? with
    | none => rw [e] at hx; simp at hx
    | some t => rw [e] at hx; exact (hp.task t (List.mem_of_getElem? e)).aft.1 x hx
  unfold roundP
  constructor
  · intro h i hi
    split at h
    · omega
    · rename_i hn
      have := List.find?_eq_none.1 hn i (List.mem_range.2 hi.low)
      exact this (List.contains_iff_mem.2 ((up_is ha i i).2 hi))
  · intro h
    split
    · rename_i i hi
      have := List.find?_some hi
      exact absurd ((up_is ha i i).1 (List.contains_iff_mem.1 this)) (h i)
    · omega
end Go.Proofs.YtfjaibaidpbppaaGreatDoor
