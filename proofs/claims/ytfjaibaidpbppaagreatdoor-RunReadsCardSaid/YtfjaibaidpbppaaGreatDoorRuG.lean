/-
  The program's run: what is wrong with a call that needs a place; a gate that fails. Conditions: eight tasks at most. The program's run: Complete, Miss, Beat, Take. Conditions: eight tasks at most, times up to a million.
-/
import Derived.Test.YtfjaibaidpbppaaGreatDoorRuE
import Derived.Test.YtfjaibaidpbppaaGreatDoorCodX
import Derived.Test.YtfjaibaidpbppaaGreatDoorRnD
namespace Go.Proofs.YtfjaibaidpbppaaGreatDoor
open Go.RowKit

def wrongE (z : RunP) (i k s : Int) : Int := if hasB z i = false ∨ kindI (z.tk i.toNat) ≠ k then 2 else if statR z ≠ 0 ∨ (z.pl i.toNat).tr.st ≠ s then 12 else 0
/-- What must hold of a call that isn't wrong. -/
structure Fits (z : RunP) (i k s : Int) (j : Nat) (t : TkP) (p : PlP) : Prop where
  i_ : i = j
  tk : z.ts[j]? = some t
  pl : z.ps[j]? = some p
  kind : kindI t = k
  run : statR z = 0
  st : p.tr.st = s
theorem wrongE_zero {z : RunP} {i k s : Int} (hl : z.ps.length = z.ts.length) (h : wrongE z i k s = 0) : ∃ j t p, Fits z i k s j t p := by
  unfold wrongE at h
  split at h
  · cases h
  · rename_i h1
    split at h
    · cases h
    · rename_i h2
      have hb : hasB z i = true := by
        cases hx : hasB z i with
        | true => rfl
        | false => exact absurd (.inl hx) h1
      obtain ⟨j, rfl, hj⟩ := hasB_nat hb
      have e1 := List.getElem?_eq_getElem (l := z.ts) (i := j) (by omega)
      have e2 := List.getElem?_eq_getElem (l := z.ps) (i := j) hj
      rw [Int.toNat_natCast, tk_of e1] at h1
      rw [Int.toNat_natCast, pl_of e2] at h2
      exact ⟨j, _, _, rfl, e1, e2, Decidable.byContradiction fun hh => h1 (.inr hh), Decidable.byContradiction fun hh => h2 (.inl hh), Decidable.byContradiction fun hh => h2 (.inr hh)⟩
theorem hasB_range {z : RunP} {i : Int} : hasB z i = false ↔ i < 0 ∨ (z.ps.length : Int) ≤ i := by
  constructor
  · exact hasB_no
  · intro h
    unfold hasB
    simp only [Bool.and_eq_false_iff, decide_eq_false_iff_not]
    omega
theorem kindI_task {t : TkP} : kindI t ≠ 0 ↔ 0 < t.need := by
  unfold kindI
  split <;> simp_all
theorem wrong_held (z : RunP) (i : Int) : wrongE z i 0 2 = heldE z i := by
  unfold wrongE heldE taskE
  by_cases h1 : i < 0 ∨ (z.ps.length : Int) ≤ i ∨ 0 < (z.tk i.toNat).need
  · have h2 : hasB z i = false ∨ kindI (z.tk i.toNat) ≠ 0 := by
      rw [hasB_range, kindI_task]
      omega
    rw [if_pos h1, if_pos h2, if_neg (by decide)]
  · have h2 : ¬ (hasB z i = false ∨ kindI (z.tk i.toNat) ≠ 0) := by
      rw [hasB_range, kindI_task]
      omega
    rw [if_neg h1, if_neg h2]
    by_cases h3 : statR z ≠ 0
    · rw [if_pos h3, if_pos (.inl h3), if_neg (by decide)]
    · rw [if_neg h3, if_pos rfl]
      by_cases h4 : (z.pl i.toNat).tr.st = 2
      · rw [if_pos h4, if_neg (by simp [h3, h4])]
      · rw [if_neg h4, if_pos (.inr h4)]
theorem kindI_gate {t : TkP} (h0 : 0 ≤ t.need) : kindI t ≠ 1 ↔ t.need = 0 := by
  unfold kindI
  split <;> simp <;> omega
theorem wrong_gate {z : RunP} {i : Int} (h0 : ∀ t ∈ z.ts, 0 ≤ t.need) : wrongE z i 1 1 = gateE z i := by
  have hn : 0 ≤ (z.tk i.toNat).need := by
    unfold RunP.tk
    rw [List.getD_eq_getElem?_getD]
    cases h : z.ts[i.toNat]? with
    | none => exact Int.le_refl _
    | some t => exact h0 t (List.mem_of_getElem? h)
  unfold wrongE gateE
  by_cases h1 : i < 0 ∨ (z.ps.length : Int) ≤ i ∨ (z.tk i.toNat).need = 0
  · have h2 : hasB z i = false ∨ kindI (z.tk i.toNat) ≠ 1 := by
      rw [hasB_range, kindI_gate hn]
      omega
    rw [if_pos h1, if_pos h2]
  · have h2 : ¬ (hasB z i = false ∨ kindI (z.tk i.toNat) ≠ 1) := by
      rw [hasB_range, kindI_gate hn]
      omega
    rw [if_neg h1, if_neg h2]
section
variable {w : World} {X : List Nat} {R B g c d : Nat} {z : RunP} {vs : List Value}
set_option maxHeartbeats 2000000 in
set_option maxRecDepth 100000 in
theorem rwrong_is (h : RnC w X R B g c d z vs) (hl : z.ps.length = z.ts.length) (h8 : z.ps.length ≤ 8) (i k s : Int) : Calls Tryz.prog 40 #[ptrV R, .int .i64 i, .int .i64 k, .int .i64 s] w fun e w' => e = .returned (.int .i64 (wrongE z i k s)) ∧ Below w.heap.size w w' := by
  have HH := Lib.hid (rhas_is h i)
  have HA := Lib.hid h
  obtain ⟨_, x1, _, _⟩ := h.cells
  obtain ⟨r, hr⟩ : ∃ r, r = wrongE z i k s := ⟨_, rfl⟩
  rw [← hr]
  have HR := Lib.hid hr
  clear hr
  cases hb : hasB z i with
  | false =>
    rw [hb] at HH
    have HE := Lib.hid (show r = 2 by rw [HR.out, wrongE, if_pos (.inl hb)])
    clear hb h
    go_enter Tryz.func40, Tryz.ntmps40
    go_wp2_with (go_at_call 57; refine HH.out.mono ?_; rintro e w1 ⟨rfl, rfl⟩)
    go_ret
    exact ⟨by rw [HE.out]; rfl, Below.refl _ _⟩
  | true =>
    rw [hb] at HH
    obtain ⟨j, rfl, hj⟩ := hasB_nat hb
    obtain ⟨t, ht⟩ : ∃ t, z.ts[j]? = some t := ⟨_, List.getElem?_eq_getElem (by omega)⟩
    obtain ⟨p, hp⟩ : ∃ p, z.ps[j]? = some p := ⟨_, List.getElem?_eq_getElem hj⟩
    obtain ⟨A, e, hc, _⟩ := h.task ht
    have p0 : w.cell? ⟨g, j * 7, none⟩ = some (.string t.name) := hc 0 _ rfl
    have p1 := hc 1 _ rfl
    have p2 := hc 2 _ rfl
    have p3 := hc 3 _ rfl
    have p4 := hc 4 _ rfl
    have p5 := hc 5 _ rfl
    have p6 := hc 6 _ rfl
    have HTK := Lib.hid (tk_of ht)
    have HPL := Lib.hid (pl_of hp)
    have HB := Lib.hid hb
    have hk0 : (0 : Int) ≤ (j : Int) := by omega
    have hkl : (j : Int) < (z.ts.length : Int) := by omega
    obtain ⟨q, hq⟩ : ∃ q, q = kindI t := ⟨_, rfl⟩
    have hkk := fun W : World => rkind_is t A e W
    rw [← hq] at hkk
    have HK := Lib.hid hkk
    have HQ := Lib.hid hq
    clear hb h hc ht hp hkk hq
    by_cases hne : q = k
    · have n1 : (q != k) = false := by rw [bne_eq_false_iff_eq]; exact hne
      obtain ⟨st, hst⟩ : ∃ st, st = statR z := ⟨_, rfl⟩
      have hss := fun (W : World) (hb : Below w.heap.size w W) => rstatus_is (HA.out.later hb) h8
      rw [← hst] at hss
      have HS := Lib.hid hss
      have HST := Lib.hid hst
      have HKE := Lib.hid hne
      clear hss hst hne
      by_cases hs0 : st = 0
      · have n2 : (st != 0) = false := by rw [bne_eq_false_iff_eq]; exact hs0
        have HS0 := Lib.hid hs0
        have hsa := fun (W : World) (hb : Below w.heap.size w W) => rstate_is (HA.out.later hb) (j : Int)
        have hse : stateR z (j : Int) = p.tr.st := by rw [stateR, if_neg (by omega), Int.toNat_natCast, HPL.out]
        rw [hse] at hsa
        have HSA := Lib.hid hsa
        clear hs0 hsa hse
        go_enter Tryz.func40, Tryz.ntmps40
        go_upto_region 5 with (first
          | (go_at_call 57; refine HH.out.mono ?_; rintro e w1 ⟨rfl, rfl⟩)
          | (go_at_call 36; refine (HK.out _).mono ?_; rintro e w2 ⟨rfl, hb2⟩; have HB2 := Lib.hid hb2; clear hb2))
        go_wp2_with fail
        refine (HS.out _ HB2.out).mono ?_
        rintro e w3 ⟨rfl, hb3⟩
        have HB3 := Lib.hid (below_step HB2.out hb3)
        clear hb3
        by_cases he : p.tr.st = s
        · have n3 : (p.tr.st != s) = false := by rw [bne_eq_false_iff_eq]; exact he
          have HE := Lib.hid (show r = 0 by rw [HR.out, wrongE, Int.toNat_natCast, HTK.out, HPL.out, if_neg (by rw [HB.out, ← HQ.out, HKE.out]; simp), if_neg (by rw [← HST.out, HS0.out, he]; simp)])
          clear he
          go_wp2_with fail
          refine (HSA.out _ HB3.out).mono ?_
          rintro e w4 ⟨rfl, rfl⟩
          go_wp2_with fail
          go_ret
          exact ⟨by rw [HE.out]; rfl, HB3.out⟩
        · have n3 : (p.tr.st != s) = true := by rw [bne_iff_ne]; exact he
          have HE := Lib.hid (show r = 12 by rw [HR.out, wrongE, Int.toNat_natCast, HTK.out, HPL.out, if_neg (by rw [HB.out, ← HQ.out, HKE.out]; simp), if_pos (.inr he)])
          clear he
          go_wp2_with fail
          refine (HSA.out _ HB3.out).mono ?_
          rintro e w4 ⟨rfl, rfl⟩
          go_wp2_with fail
          go_ret
          exact ⟨by rw [HE.out]; rfl, HB3.out⟩
      · have n2 : (st != 0) = true := by rw [bne_iff_ne]; exact hs0
        have HE := Lib.hid (show r = 12 by rw [HR.out, wrongE, Int.toNat_natCast, HTK.out, if_neg (by rw [HB.out, ← HQ.out, HKE.out]; simp), if_pos (.inl (by rw [← HST.out]; exact hs0))])
        clear hs0
        go_enter Tryz.func40, Tryz.ntmps40
        go_upto_region 5 with (first
          | (go_at_call 57; refine HH.out.mono ?_; rintro e w1 ⟨rfl, rfl⟩)
          | (go_at_call 36; refine (HK.out _).mono ?_; rintro e w2 ⟨rfl, hb2⟩; have HB2 := Lib.hid hb2; clear hb2))
        go_wp2_with fail
        refine (HS.out _ HB2.out).mono ?_
        rintro e w3 ⟨rfl, hb3⟩
        have HB3 := Lib.hid (below_step HB2.out hb3)
        clear hb3
        go_wp2_with fail
        go_ret
        exact ⟨by rw [HE.out]; rfl, HB3.out⟩
    · have n1 : (q != k) = true := by rw [bne_iff_ne]; exact hne
      have HE := Lib.hid (show r = 2 by rw [HR.out, wrongE, Int.toNat_natCast, HTK.out, if_pos (.inr (by rw [← HQ.out]; exact hne))])
      clear hne
      go_enter Tryz.func40, Tryz.ntmps40
      go_wp2_with (first
        | (go_at_call 57; refine HH.out.mono ?_; rintro e w1 ⟨rfl, rfl⟩)
        | (go_at_call 36; refine (HK.out _).mono ?_; rintro e w2 ⟨rfl, hb2⟩; have HB2 := Lib.hid hb2; clear hb2))
      go_ret
      exact ⟨by rw [HE.out]; rfl, HB2.out⟩
set_option maxHeartbeats 2000000 in
set_option maxRecDepth 100000 in
/-- A gate fails. -/
theorem rfail_is (h : RnC w X R B g c d z vs) {k : Nat} {p : PlP} (hp : z.ps[k]? = some p) : Calls Tryz.prog 39 #[.pointer (some ⟨B, k * 9, none⟩)] w (RcT w X R B g c d (z.put k { p with tr := ⟨4, 0, p.tr.ms, 0, 0, 0⟩ }) vs) := by
  have HF := Lib.hid (show RcT w X R B g c d (z.put k { p with tr := ⟨4, 0, p.tr.ms, 0, 0, 0⟩ }) vs (.returned (.tuple #[])) (set6 w B (k * 9) ⟨4, 0, p.tr.ms, 0, 0, 0⟩) from ⟨rfl, h.setTry hp _, onlyO_set6 (B := B) (by simp)⟩)
  obtain ⟨Y, e, hv, _, _, hc⟩ := h.step hp
  have p0 : w.cell? ⟨B, k * 9, none⟩ = some (.int .i64 p.tr.st) := hc 0 _ rfl
  have p1 := hc 1 _ rfl
  have p2 := hc 2 _ rfl
  have p3 := hc 3 _ rfl
  have p4 := hc 4 _ rfl
  have p5 := hc 5 _ rfl
  have zf := h.free
  clear h hp hc hv
  go_enter Tryz.func39, Tryz.ntmps39
  go_wp2_with fail
  exact bodyPost_ret (v := .tuple #[]) (by simp [results, Tryz.results39, go_sem]) rfl HF.out
end
end Go.Proofs.YtfjaibaidpbppaaGreatDoor

namespace Go.Proofs.YtfjaibaidpbppaaGreatDoor
open Go.RowKit

/-- What a call leaves that answers v: the run, turned. -/
def RcV (w : World) (X : List Nat) (R B g c d : Nat) (z : RunP) (v : Value) (e : Ending) (w' : World) : Prop := e = .returned v ∧ ∃ X' vs', RnC w' X' R B g c d z vs' ∧ OnlyO [R, B] w w' ∧ New X X' w
theorem RnC.setOut {W : World} {X : List Nat} {R B g c d : Nat} {z : RunP} {vs : List Value} (h : RnC W X R B g c d z vs) {k : Nat} {p : PlP} (hp : z.ps[k]? = some p) (s : ByteArray) : RnC (W.setCell ⟨B, k * 9 + 6, none⟩ (.string s)) X R B g c d (z.put k { p with out := s }) vs := by
  have hk := (List.getElem?_eq_some_iff.1 hp).1
  have hv := List.getElem?_eq_getElem (l := vs) (i := k) (by rw [h.len]; exact hk)
  have hso := fun i (hi : i = R ∨ i ∈ X) => show (W.setCell ⟨B, k * 9 + 6, none⟩ (.string s)).heap[i]? = W.heap[i]? from set_other (fun e => by
    rcases hi with h1 | h1
    · exact h.apart.1 (h1.symm.trans e)
    · exact h.apart.2.2 (e ▸ h1))
  have hst := h.steps.set (p' := { p with out := s }) (v' := vs[k]'(by rw [h.len]; exact hk)) hp hv (j := 6) (by omega) rfl
  rw [set_same hv] at hst
  refine h.turn hst (by rw [List.length_set]; exact h.len) (by rw [List.length_set]) hso (fun _ hi => hi) (fun _ hi => .inl hi) (fun i hi => by rw [World.size_setCell]; exact h.xlow i hi) (fun i q v hq hv2 => ?_)
  by_cases hik : i = k
  · subst hik
    rw [List.getElem?_set_self hk] at hq
    injection hq with hq
    subst hq
    exact (h.votes i p v hp hv2).same (fun j hj => hso j (.inr hj)) (fun _ hi => hi)
  · rw [List.getElem?_set_ne (fun e => hik e.symm)] at hq
    exact (h.votes i q v hq hv2).same (fun j hj => hso j (.inr hj)) (fun _ hi => hi)
theorem put_put {z : RunP} {k : Nat} {p q : PlP} : (z.put k p).put k q = z.put k q := by
  unfold RunP.put
  rw [List.set_set]
theorem put_get {z : RunP} {k : Nat} {p q : PlP} (hp : z.ps[k]? = some p) : (z.put k q).ps[k]? = some q := List.getElem?_set_self (List.getElem?_eq_some_iff.1 hp).1
theorem onlyO_cell {W : World} {B o : Nat} {M : List Nat} (h : B ∈ M) (v : Value) : OnlyO M W (W.setCell ⟨B, o, none⟩ v) := (OnlyO.of_below (Below.refl _ _)).set (.inl h) v
theorem held_zero {z : RunP} {i k s : Int} {j : Nat} {t : TkP} {p : PlP} (h : Fits z i k s j t p) : i.toNat = j ∧ z.pl i.toNat = p ∧ z.tk i.toNat = t := by
  have e : i.toNat = j := by rw [h.i_, Int.toNat_natCast]
  rw [e]
  exact ⟨rfl, pl_of h.pl, tk_of h.tk⟩
theorem put_same {z : RunP} : RunP.put z = fun i p => { z with ps := z.ps.set i p } := rfl
section
variable {w : World} {X : List Nat} {R B g c d : Nat} {z : RunP} {vs : List Value}
theorem RcV.of {W : World} {v : Value} {z' : RunP} {vs' : List Value} (h : RnC W X R B g c d z' vs') (ho : OnlyO [R, B] w W) : RcV w X R B g c d z' v (.returned v) W := ⟨rfl, X, vs', h, ho, New.refl⟩
theorem RcV.same {W : World} {v : Value} (h : RnC w X R B g c d z vs) (hb : Below w.heap.size w W) : RcV w X R B g c d z v (.returned v) W := .of (h.later hb) (.of_below hb)
set_option maxHeartbeats 2000000 in
set_option maxRecDepth 100000 in
theorem rdone_is (h : RnC w X R B g c d z vs) (hm : MayP z.pn z.ts) (hl : z.ps.length = z.ts.length) {k : Nat} {p : PlP} (hp : z.ps[k]? = some p) (now : Int) (s : ByteArray) :
    Calls Tryz.prog 42 #[ptrV R, .int .i64 (k : Int), .int .i64 now, .string s] w (RcT w X R B g c d (advR (z.put k { p with tr := doneP p.tr, out := s }) now) vs) := by
  have hk := (List.getElem?_eq_some_iff.1 hp).1
  obtain ⟨_, _, x2, _⟩ := h.cells
  have HA := Lib.hid h
  have HP := Lib.hid hp
  have HM := Lib.hid hm
  have HL := Lib.hid hl
  obtain ⟨Y, e, hv, _, _, hc⟩ := h.step hp
  have p0 : w.cell? ⟨B, k * 9, none⟩ = some (.int .i64 p.tr.st) := hc 0 _ rfl
  have p1 := hc 1 _ rfl
  have p2 := hc 2 _ rfl
  have p3 := hc 3 _ rfl
  have p4 := hc 4 _ rfl
  have p5 := hc 5 _ rfl
  have hk0 : (0 : Int) ≤ (k : Int) := by omega
  have hkl : (k : Int) < (z.ps.length : Int) := by omega
  obtain ⟨t', ht'⟩ : ∃ t', t' = doneP p.tr := ⟨_, rfl⟩
  have hct := fun W : World => ldone_is (w := W) p.tr
  rw [← ht'] at hct
  have HCT := Lib.hid hct
  have HTT := Lib.hid ht'
  clear h hm hl hp hc hv hct ht'
  go_enter Tryz.func42, Tryz.ntmps42
  go_wp2_with fail
  refine (HCT.out _).mono ?_
  rintro e w1 ⟨rfl, hb1⟩
  have HA1 := Lib.hid (HA.out.later hb1)
  have HO1 := Lib.hid (OnlyO.of_below (O := [R, B]) hb1)
  clear hb1 p0 p1 p2 p3 p4 p5 x2
  obtain ⟨_, _, x2, _⟩ := HA1.out.cells
  obtain ⟨Y, e, hv, _, _, hc⟩ := HA1.out.step HP.out
  have p0 : w1.cell? ⟨B, k * 9, none⟩ = some (.int .i64 p.tr.st) := hc 0 _ rfl
  have p1 := hc 1 _ rfl
  have p2 := hc 2 _ rfl
  have p3 := hc 3 _ rfl
  have p4 := hc 4 _ rfl
  have p5 := hc 5 _ rfl
  have zf := HA1.out.free
  have hS1 := HA1.out.setTry HP.out t'
  have HS1 := Lib.hid hS1
  have HO2 := Lib.hid (HO1.out.trans (onlyO_set6 (W := w1) (B := B) (M := [R, B]) (o := k * 9) (t := t') (by simp)) New.refl)
  clear hv hc HA1 HO1 hS1
  go_upto_region 2 with fail
  have hW2 : ∃ W2, W2 = set6 w1 B (k * 9) t' := ⟨_, rfl⟩
  obtain ⟨W2, hW2⟩ := hW2
  rw [← hW2] at HS1 HO2
  have hW3 := hW2
  unfold set6 at hW3
  rw [← hW3]
  clear p0 p1 p2 p3 p4 p5 zf x2 hW3 hW2
  have hP2 := put_get (z := z) (q := { p with tr := t' }) HP.out
  obtain ⟨Y2, e2, hv2, _, _, hc2⟩ := HS1.out.step hP2
  have q6 := hc2 6 _ rfl
  have zf := HS1.out.free
  have hS3 := HS1.out.setOut hP2 s
  rw [put_put] at hS3
  have HS3 := Lib.hid hS3
  have HO3 := Lib.hid (HO2.out.trans (onlyO_cell (W := W2) (B := B) (M := [R, B]) (o := k * 9 + 6) (by simp) (.string s)) New.refl)
  clear hS3 hc2 hv2 hP2 HS1 HO2
  go_wp2_with fail
  refine (radvance_is HS3.out HM.out (by show (z.ps.set k _).length = _; rw [List.length_set]; exact HL.out) now).mono ?_
  rintro e w4 ⟨rfl, h4, ho4⟩
  rw [HTT.out] at h4
  have HF := Lib.hid (show RcT w X R B g c d (advR (z.put k { p with tr := doneP p.tr, out := s }) now) vs (.returned (.tuple #[])) w4 from ⟨rfl, h4, HO3.out.trans ho4 New.refl⟩)
  clear h4 ho4 HS3 HO3 q6 zf
  go_wp2_with fail
  exact bodyPost_ret (v := .tuple #[]) (by simp [results, Tryz.results42, go_sem]) rfl HF.out
set_option maxHeartbeats 2000000 in
set_option maxRecDepth 100000 in
theorem rcomplete_is (h : RnC w X R B g c d z vs) (hm : MayP z.pn z.ts) (hl : z.ps.length = z.ts.length) (i now : Int) (s : ByteArray) (hs : s.size ≤ 1000000) :
    Calls Tryz.prog 13 #[ptrV R, .int .i64 i, .int .i64 now, .string s] w (RcV w X R B g c d (compR z i now s).1 (.int .i64 (compR z i now s).2)) := by
  have h8 : z.ps.length ≤ 8 := by rw [hl]; exact hm.right.few.2
  have HA := Lib.hid h
  have HM := Lib.hid hm
  have HL := Lib.hid hl
  have HW := Lib.hid (rwrong_is h hl h8 i 0 2)
  obtain ⟨r, hr⟩ : ∃ r, r = compR z i now s := ⟨_, rfl⟩
  rw [← hr]
  have HR := Lib.hid hr
  obtain ⟨v, hv⟩ : ∃ v, v = wrongE z i 0 2 := ⟨_, rfl⟩
  rw [← hv] at HW
  have HV := Lib.hid hv
  clear h hm hl hr hv
  by_cases h0 : v = 0
  · have h0' := h0
    rw [HV.out] at h0'
    obtain ⟨j, t, p, hF⟩ := wrongE_zero HL.out h0'
    have hh : heldE z i = 0 := by rw [← wrong_held]; exact h0'
    obtain rfl := hF.i_
    have HP := Lib.hid hF.pl
    have n0 : (v != 0) = false := by rw [bne_eq_false_iff_eq]; exact h0
    by_cases h32 : 32 < s.size
    · have HE := Lib.hid (show r = (z, 1) by rw [HR.out, compR, if_neg (by rw [hh]; simp), if_pos h32])
      have n1 : 32 < (s.size : Int) := by omega
      clear h0 h0' hh hF h32
      go_enter Tryz.func13, Tryz.ntmps13
      go_wp2_with fail
      refine HW.out.mono ?_
      rintro e w1 ⟨rfl, hb1⟩
      have HB1 := Lib.hid hb1
      clear hb1
      go_wp2_with fail
      go_ret
      rw [HE.out]
      exact RcV.same HA.out HB1.out
    · obtain ⟨e1, e2, _⟩ := held_zero hF
      have HE := Lib.hid (show r = (advR (z.put j { p with tr := doneP p.tr, out := s }) now, 0) by rw [HR.out, compR, if_neg (by rw [hh]; simp), if_neg h32, e2, e1])
      have n1 : ¬ 32 < (s.size : Int) := by omega
      clear h0 h0' hh hF h32 e1 e2
      go_enter Tryz.func13, Tryz.ntmps13
      go_wp2_with fail
      refine HW.out.mono ?_
      rintro e w1 ⟨rfl, hb1⟩
      have HA1 := Lib.hid (HA.out.later hb1)
      have HO1 := Lib.hid (OnlyO.of_below (O := [R, B]) hb1)
      clear hb1
      go_wp2_with fail
      refine (rdone_is HA1.out HM.out HL.out HP.out now s).mono ?_
      rintro e w2 ⟨rfl, h2, ho2⟩
      have HF := Lib.hid (show RcV w X R B g c d r.1 (.int .i64 r.2) (.returned (.int .i64 r.2)) w2 from by rw [HE.out]; exact RcV.of h2 (HO1.out.trans ho2 New.refl))
      clear h2 ho2
      go_wp2_with fail
      go_ret
      have hf := HF.out
      rw [HE.out] at hf ⊢
      exact hf
  · have HE := Lib.hid (show r = (z, v) by rw [HR.out, compR, if_pos (by rw [← wrong_held, ← HV.out]; exact h0), ← wrong_held, ← HV.out])
    have n0 : (v != 0) = true := by rw [bne_iff_ne]; exact h0
    clear h0
    go_enter Tryz.func13, Tryz.ntmps13
    go_wp2_with fail
    refine HW.out.mono ?_
    rintro e w1 ⟨rfl, hb1⟩
    have HB1 := Lib.hid hb1
    clear hb1
    go_wp2_with fail
    go_ret
    rw [HE.out]
    exact RcV.same HA.out HB1.out
set_option maxHeartbeats 4000000 in
set_option maxRecDepth 100000 in
theorem rmiss_is (h : RnC w X R B g c d z vs) (hm : MayP z.pn z.ts) (hl : z.ps.length = z.ts.length) (hz : ∀ p ∈ z.ps, SmallT p.tr) (i now : Int) (hn : smI now) :
    Calls Tryz.prog 14 #[ptrV R, .int .i64 i, .int .i64 now] w (RcV w X R B g c d (missR z i now).1 (.int .i64 (missR z i now).2)) := by
  have h8 : z.ps.length ≤ 8 := by rw [hl]; exact hm.right.few.2
  have HA := Lib.hid h
  have HZ := Lib.hid hz
  have HN := Lib.hid hn
  have HL := Lib.hid hl
  have HTM := Lib.hid (show ∀ t ∈ z.ts, smI t.time from fun t ht => by have := (hm.right.task t ht).time; unfold smI; omega)
  have HW := Lib.hid (rwrong_is h hl h8 i 0 2)
  obtain ⟨r, hr⟩ : ∃ r, r = missR z i now := ⟨_, rfl⟩
  rw [← hr]
  have HR := Lib.hid hr
  obtain ⟨v, hv⟩ : ∃ v, v = wrongE z i 0 2 := ⟨_, rfl⟩
  rw [← hv] at HW
  have HV := Lib.hid hv
  clear h hm hl hr hv hz hn
  by_cases h0 : v = 0
  · have h0' := h0
    rw [HV.out] at h0'
    obtain ⟨j, t, p, hF⟩ := wrongE_zero HL.out h0'
    have hh : heldE z i = 0 := by rw [← wrong_held]; exact h0'
    obtain rfl := hF.i_
    have HP := Lib.hid hF.pl
    have HT := Lib.hid hF.tk
    have n0 : (v != 0) = false := by rw [bne_eq_false_iff_eq]; exact h0
    obtain ⟨e1, e2, e3⟩ := held_zero hF
    obtain ⟨t', ht'⟩ : ∃ t', t' = missP p.tr now t.retry := ⟨_, rfl⟩
    have HE := Lib.hid (show r = (z.put j { p with tr := t' }, 0) by rw [HR.out, missR, if_neg (by rw [hh]; simp), e2, e3, e1, ht'])
    have hct := fun W : World => lmiss_is (w := W) p.tr now t.retry (HZ.out p (List.mem_of_getElem? HP.out)) HN.out
    rw [← ht'] at hct
    have HCT := Lib.hid hct
    have hk0 : (0 : Int) ≤ (j : Int) := by omega
    have hkl : (j : Int) < (z.ps.length : Int) := by have := (List.getElem?_eq_some_iff.1 HP.out).1; omega
    have hkt : (j : Int) < (z.ts.length : Int) := by have := (List.getElem?_eq_some_iff.1 HT.out).1; omega
    clear h0 h0' hh hF e1 e2 e3 hct ht'
    go_enter Tryz.func14, Tryz.ntmps14
    go_wp2_with fail
    refine HW.out.mono ?_
    rintro e w1 ⟨rfl, hb1⟩
    have HA1 := Lib.hid (HA.out.later hb1)
    have HO1 := Lib.hid (OnlyO.of_below (O := [R, B]) hb1)
    clear hb1
    obtain ⟨_, x1, x2, _⟩ := HA1.out.cells
    obtain ⟨Y, e, hv, _, _, hc⟩ := HA1.out.step HP.out
    obtain ⟨A, ea, hct, _⟩ := HA1.out.task HT.out
    have p0 : w1.cell? ⟨B, j * 9, none⟩ = some (.int .i64 p.tr.st) := hc 0 _ rfl
    have p1 := hc 1 _ rfl
    have p2 := hc 2 _ rfl
    have p3 := hc 3 _ rfl
    have p4 := hc 4 _ rfl
    have p5 := hc 5 _ rfl
    have pt := hct 2 _ rfl
    clear hv hc hct
    go_upto_region 4 with fail
    obtain ⟨S, hS0, hSk, hSx, hSe⟩ := held_below w1
    have f1 := fun q : HeldW S => cell_later (hSx q) x1
    have f2 := fun q : HeldW S => cell_later (hSx q) x2
    have g0 := fun q : HeldW S => cell_later (hSx q) p0
    have g1 := fun q : HeldW S => cell_later (hSx q) p1
    have g2 := fun q : HeldW S => cell_later (hSx q) p2
    have g3 := fun q : HeldW S => cell_later (hSx q) p3
    have g4 := fun q : HeldW S => cell_later (hSx q) p4
    have g5 := fun q : HeldW S => cell_later (hSx q) p5
    have gt := fun q : HeldW S => cell_later (hSx q) pt
    have HS0 := Lib.hid hS0
    have HSK := Lib.hid hSk
    have HSE := Lib.hid hSe
    clear hS0 hSk hSe hSx p0 p1 p2 p3 p4 p5 pt x1 x2
    refine wp_region_phase S 26 1 (by kernel_rfl) (by kernel_rfl) rfl (by kernel_rfl) (by kernel_rfl) HS0.out ?_
    intro hne
    simp only [List.take_succ_cons, List.take_zero]
    repeat (go_big_quiet_step (first | exact rfl | (go_at_call 43; refine kept_of HSK.out (HCT.out _))))
    refine wpQuiet_nil ?_
    rintro w4 ⟨⟨_, hq4⟩, rfl⟩
    clear f1 f2 g0 g1 g2 g3 g4 g5 gt hne
    have hb4 := HSE.out _ hq4
    have HA4 := Lib.hid (HA1.out.later hb4)
    have HO4 := Lib.hid (HO1.out.trans (OnlyO.of_below (O := [R, B]) hb4) New.refl)
    clear hq4 hb4 HSE HSK HS0 HA1 HO1
    have HF := Lib.hid (show RcV w X R B g c d r.1 (.int .i64 r.2) (.returned (.int .i64 r.2)) (set6 w4 B (j * 9) t') from by rw [HE.out]; exact RcV.of (HA4.out.setTry HP.out t') (HO4.out.trans (onlyO_set6 (W := w4) (B := B) (M := [R, B]) (o := j * 9) (t := t') (by simp)) New.refl))
    obtain ⟨Y, e, hv, _, _, hc⟩ := HA4.out.step HP.out
    have p0 : w4.cell? ⟨B, j * 9, none⟩ = some (.int .i64 p.tr.st) := hc 0 _ rfl
    have p1 := hc 1 _ rfl
    have p2 := hc 2 _ rfl
    have p3 := hc 3 _ rfl
    have p4 := hc 4 _ rfl
    have p5 := hc 5 _ rfl
    have zf := HA4.out.free
    clear hv hc HA4 HO4
    refine one_ready (i := 26) (by kernel_rfl) (wpOp_step rfl (fun KK hKK => ?_))
    have HKK := Lib.hid hKK
    clear hKK
    go_simp
    refine HKK.out _ _ ?_
    clear HKK KK p0 p1 p2 p3 p4 p5 zf
    refine ⟨by kernel_rfl, ?_⟩
    go_wp2_with fail
    go_ret
    have hf := HF.out
    rw [HE.out] at hf ⊢
    exact hf
  · have HE := Lib.hid (show r = (z, v) by rw [HR.out, missR, if_pos (by rw [← wrong_held, ← HV.out]; exact h0), ← wrong_held, ← HV.out])
    have n0 : (v != 0) = true := by rw [bne_iff_ne]; exact h0
    clear h0
    go_enter Tryz.func14, Tryz.ntmps14
    go_wp2_with fail
    refine HW.out.mono ?_
    rintro e w1 ⟨rfl, hb1⟩
    have HB1 := Lib.hid hb1
    clear hb1
    go_wp2_with fail
    go_ret
    rw [HE.out]
    exact RcV.same HA.out HB1.out
set_option maxHeartbeats 4000000 in
set_option maxRecDepth 100000 in
theorem rbeat_is (h : RnC w X R B g c d z vs) (hm : MayP z.pn z.ts) (hl : z.ps.length = z.ts.length) (hz : ∀ p ∈ z.ps, SmallT p.tr) (i now : Int) (hn : smI now) :
    Calls Tryz.prog 26 #[ptrV R, .int .i64 i, .int .i64 now] w (RcV w X R B g c d (beatR z i now).1 (.int .i64 (beatR z i now).2)) := by
  have h8 : z.ps.length ≤ 8 := by rw [hl]; exact hm.right.few.2
  have HA := Lib.hid h
  have HZ := Lib.hid hz
  have HN := Lib.hid hn
  have HL := Lib.hid hl
  have HTM := Lib.hid (show ∀ t ∈ z.ts, smI t.time from fun t ht => by have := (hm.right.task t ht).time; unfold smI; omega)
  have HW := Lib.hid (rwrong_is h hl h8 i 0 2)
  obtain ⟨r, hr⟩ : ∃ r, r = beatR z i now := ⟨_, rfl⟩
  rw [← hr]
  have HR := Lib.hid hr
  obtain ⟨v, hv⟩ : ∃ v, v = wrongE z i 0 2 := ⟨_, rfl⟩
  rw [← hv] at HW
  have HV := Lib.hid hv
  clear h hm hl hr hv hz hn
  by_cases h0 : v = 0
  · have h0' := h0
    rw [HV.out] at h0'
    obtain ⟨j, t, p, hF⟩ := wrongE_zero HL.out h0'
    have hh : heldE z i = 0 := by rw [← wrong_held]; exact h0'
    obtain rfl := hF.i_
    have HP := Lib.hid hF.pl
    have HT := Lib.hid hF.tk
    have n0 : (v != 0) = false := by rw [bne_eq_false_iff_eq]; exact h0
    obtain ⟨e1, e2, e3⟩ := held_zero hF
    obtain ⟨t', ht'⟩ : ∃ t', t' = beatP p.tr now t.time := ⟨_, rfl⟩
    have HE := Lib.hid (show r = (z.put j { p with tr := t' }, 0) by rw [HR.out, beatR, if_neg (by rw [hh]; simp), e2, e3, e1, ht'])
    have hct := fun W : World => lbeat_is (w := W) p.tr now t.time HN.out (HTM.out t (List.mem_of_getElem? HT.out))
    rw [← ht'] at hct
    have HCT := Lib.hid hct
    have hk0 : (0 : Int) ≤ (j : Int) := by omega
    have hkl : (j : Int) < (z.ps.length : Int) := by have := (List.getElem?_eq_some_iff.1 HP.out).1; omega
    have hkt : (j : Int) < (z.ts.length : Int) := by have := (List.getElem?_eq_some_iff.1 HT.out).1; omega
    clear h0 h0' hh hF e1 e2 e3 hct ht'
    go_enter Tryz.func26, Tryz.ntmps26
    go_wp2_with fail
    refine HW.out.mono ?_
    rintro e w1 ⟨rfl, hb1⟩
    have HA1 := Lib.hid (HA.out.later hb1)
    have HO1 := Lib.hid (OnlyO.of_below (O := [R, B]) hb1)
    clear hb1
    obtain ⟨_, x1, x2, _⟩ := HA1.out.cells
    obtain ⟨Y, e, hv, _, _, hc⟩ := HA1.out.step HP.out
    obtain ⟨A, ea, hct, _⟩ := HA1.out.task HT.out
    have p0 : w1.cell? ⟨B, j * 9, none⟩ = some (.int .i64 p.tr.st) := hc 0 _ rfl
    have p1 := hc 1 _ rfl
    have p2 := hc 2 _ rfl
    have p3 := hc 3 _ rfl
    have p4 := hc 4 _ rfl
    have p5 := hc 5 _ rfl
    have pt := hct 3 _ rfl
    clear hv hc hct
    go_upto_region 4 with fail
    obtain ⟨S, hS0, hSk, hSx, hSe⟩ := held_below w1
    have f1 := fun q : HeldW S => cell_later (hSx q) x1
    have f2 := fun q : HeldW S => cell_later (hSx q) x2
    have g0 := fun q : HeldW S => cell_later (hSx q) p0
    have g1 := fun q : HeldW S => cell_later (hSx q) p1
    have g2 := fun q : HeldW S => cell_later (hSx q) p2
    have g3 := fun q : HeldW S => cell_later (hSx q) p3
    have g4 := fun q : HeldW S => cell_later (hSx q) p4
    have g5 := fun q : HeldW S => cell_later (hSx q) p5
    have gt := fun q : HeldW S => cell_later (hSx q) pt
    have HS0 := Lib.hid hS0
    have HSK := Lib.hid hSk
    have HSE := Lib.hid hSe
    clear hS0 hSk hSe hSx p0 p1 p2 p3 p4 p5 pt x1 x2
    refine wp_region_phase S 26 1 (by kernel_rfl) (by kernel_rfl) rfl (by kernel_rfl) (by kernel_rfl) HS0.out ?_
    intro hne
    simp only [List.take_succ_cons, List.take_zero]
    repeat (go_big_quiet_step (first | exact rfl | (go_at_call 56; refine kept_of HSK.out (HCT.out _))))
    refine wpQuiet_nil ?_
    rintro w4 ⟨⟨_, hq4⟩, rfl⟩
    clear f1 f2 g0 g1 g2 g3 g4 g5 gt hne
    have hb4 := HSE.out _ hq4
    have HA4 := Lib.hid (HA1.out.later hb4)
    have HO4 := Lib.hid (HO1.out.trans (OnlyO.of_below (O := [R, B]) hb4) New.refl)
    clear hq4 hb4 HSE HSK HS0 HA1 HO1
    have HF := Lib.hid (show RcV w X R B g c d r.1 (.int .i64 r.2) (.returned (.int .i64 r.2)) (set6 w4 B (j * 9) t') from by rw [HE.out]; exact RcV.of (HA4.out.setTry HP.out t') (HO4.out.trans (onlyO_set6 (W := w4) (B := B) (M := [R, B]) (o := j * 9) (t := t') (by simp)) New.refl))
    obtain ⟨Y, e, hv, _, _, hc⟩ := HA4.out.step HP.out
    have p0 : w4.cell? ⟨B, j * 9, none⟩ = some (.int .i64 p.tr.st) := hc 0 _ rfl
    have p1 := hc 1 _ rfl
    have p2 := hc 2 _ rfl
    have p3 := hc 3 _ rfl
    have p4 := hc 4 _ rfl
    have p5 := hc 5 _ rfl
    have zf := HA4.out.free
    clear hv hc HA4 HO4
    refine one_ready (i := 26) (by kernel_rfl) (wpOp_step rfl (fun KK hKK => ?_))
    have HKK := Lib.hid hKK
    clear hKK
    go_simp
    refine HKK.out _ _ ?_
    clear HKK KK p0 p1 p2 p3 p4 p5 zf
    refine ⟨by kernel_rfl, ?_⟩
    go_wp2_with fail
    go_ret
    have hf := HF.out
    rw [HE.out] at hf ⊢
    exact hf
  · have HE := Lib.hid (show r = (z, v) by rw [HR.out, beatR, if_pos (by rw [← wrong_held, ← HV.out]; exact h0), ← wrong_held, ← HV.out])
    have n0 : (v != 0) = true := by rw [bne_iff_ne]; exact h0
    clear h0
    go_enter Tryz.func26, Tryz.ntmps26
    go_wp2_with fail
    refine HW.out.mono ?_
    rintro e w1 ⟨rfl, hb1⟩
    have HB1 := Lib.hid hb1
    clear hb1
    go_wp2_with fail
    go_ret
    rw [HE.out]
    exact RcV.same HA.out HB1.out
end
end Go.Proofs.YtfjaibaidpbppaaGreatDoor
