/-
  The program's run: Vote, Let, Cancel. Conditions: eight tasks at most, times up to a million.
-/
import Derived.Test.YtfjaibaidpbppaaGreatDoorRuH
namespace Go.Proofs.YtfjaibaidpbppaaGreatDoor
open Go.RowKit

/-- A slice's block, beside others; none where it is empty. -/
def addX (Y : Option Addr) (l : List Int) (X : List Nat) : List Nat := if 0 < l.length then (match Y with | some ad => ad.block :: X | none => X) else X
theorem addX_old {Y : Option Addr} {l : List Int} {X : List Nat} {i : Nat} (h : i ∈ X) : i ∈ addX Y l X := by
  unfold addX
  split
  · split
    · exact List.mem_cons_of_mem _ h
    · exact h
  · exact h
theorem addX_new {Y : Option Addr} {l : List Int} {X : List Nat} {i : Nat} (h : i ∈ addX Y l X) : i ∈ X ∨ (0 < l.length ∧ ∃ ad, Y = some ad ∧ i = ad.block) := by
  unfold addX at h
  split at h
  · rename_i hl
    split at h
    · rename_i ad
      rcases List.mem_cons.1 h with h | h
      · exact .inr ⟨hl, ad, rfl, h⟩
      · exact .inl h
    · exact .inl h
  · exact .inl h
theorem addX_in {Y : Option Addr} {l : List Int} {X : List Nat} (hl : 0 < l.length) {ad : Addr} (e : Y = some ad) : ad.block ∈ addX Y l X := by
  unfold addX
  rw [if_pos hl, e]
  exact List.mem_cons_self ..
theorem cell_lowI {w : World} {A : Option Addr} {c : Nat} {yes : List Int} (h : IntsC w A c yes) (hl : 0 < yes.length) {ad : Addr} (e : A = some ad) : ad.block < w.heap.size := by
  obtain ⟨ad', e', hc⟩ := h.at_ hl
  obtain rfl := Option.some.inj (e'.symm.trans e)
  have h2 := block_lt_of_cell (hc 0 hl)
  rwa [add_block] at h2
/-- Its votes at a place are others. -/
theorem RnC.setVotes {W : World} {X : List Nat} {R B g c d : Nat} {z : RunP} {vs : List Value} (h : RnC W X R B g c d z vs) {k : Nat} {p : PlP} (hp : z.ps[k]? = some p) {Y : Option Addr} {e : Nat} {ys : List Int} (no : Bool) (hI : IntsC W Y e ys) (hY : ∀ ad, Y = some ad → ad.block ≠ R ∧ ad.block ≠ B) :
    RnC ((W.setCell ⟨B, k * 9 + 7, none⟩ (.slice Y ys.length e)).setCell ⟨B, k * 9 + 8, none⟩ (.bool no)) (addX Y ys X) R B g c d (z.put k { p with yes := ys, no := no }) (vs.set k (.slice Y ys.length e)) := by
  have hk := (List.getElem?_eq_some_iff.1 hp).1
  have hv := List.getElem?_eq_getElem (l := vs) (i := k) (by rw [h.len]; exact hk)
  have hoo : ∀ i, i ≠ B → ((W.setCell ⟨B, k * 9 + 7, none⟩ (.slice Y ys.length e)).setCell ⟨B, k * 9 + 8, none⟩ (.bool no)).heap[i]? = W.heap[i]? := fun i hi => (set_other hi).trans (set_other hi)
  have hso := fun i (hi : i = R ∨ i ∈ X) => hoo i (fun e => by
    rcases hi with h1 | h1
    · exact h.apart.1 (h1.symm.trans e)
    · exact h.apart.2.2 (e ▸ h1))
  have hs1 := h.steps.set (p' := { p with yes := ys }) (v' := .slice Y ys.length e) hp hv (j := 7) (by omega) rfl
  have hs2 := hs1.set (k := k) (p := { p with yes := ys }) (p' := { p with yes := ys, no := no }) (v := .slice Y ys.length e) (v' := .slice Y ys.length e) (List.getElem?_set_self hk) (List.getElem?_set_self (by rw [h.len]; exact hk)) (j := 8) (by omega) rfl
  rw [List.set_set, List.set_set] at hs2
  refine h.turn hs2 (by rw [List.length_set, List.length_set]; exact h.len) (by rw [List.length_set]) hso (fun _ hi => addX_old hi) (fun i hi => ?_) (fun i hi => ?_) (fun i q v hq hv2 => ?_)
  · rcases addX_new hi with h1 | ⟨_, ad, e1, e2⟩
    · exact .inl h1
    · rw [e2]; exact .inr (hY ad e1)
  · rw [World.size_setCell, World.size_setCell]
    rcases addX_new hi with h1 | ⟨hl, ad, e1, e2⟩
    · exact h.xlow i h1
    · rw [e2]; exact cell_lowI hI hl e1
  · by_cases hik : i = k
    · subst hik
      rw [List.getElem?_set_self hk] at hq
      rw [List.getElem?_set_self (by rw [h.len]; exact hk)] at hv2
      injection hq with hq
      injection hv2 with hv2
      subst hq hv2
      exact ⟨Y, e, rfl, hI.sameX (fun hl ad e1 => hoo _ (hY ad e1).2), fun hl ad e1 => addX_in hl e1⟩
    · rw [List.getElem?_set_ne (fun e => hik e.symm)] at hq hv2
      exact (h.votes i q v hq hv2).same (fun j hj => hso j (.inr hj)) (fun _ hi => addX_old hi)
theorem two_onlyO {W : World} {B o p : Nat} {M : List Nat} (h : B ∈ M) (u v : Value) : OnlyO M W ((W.setCell ⟨B, o, none⟩ u).setCell ⟨B, p, none⟩ v) := ((OnlyO.of_below (Below.refl _ _)).set (.inl h) u).set (.inl h) v
/-- It is cancelled. -/
theorem RnC.setOver {W : World} {X : List Nat} {R B g c d : Nat} {z : RunP} {vs : List Value} (h : RnC W X R B g c d z vs) (b : Bool) : RnC (W.setCell ⟨R, 3, none⟩ (.bool b)) X R B g c d { z with over := b } vs := by
  have hso := fun i (hi : i = B ∨ i ∈ X) => show (W.setCell ⟨R, 3, none⟩ (.bool b)).heap[i]? = W.heap[i]? from set_other (fun e => by
    rcases hi with h1 | h1
    · exact h.apart.1 (e.symm.trans h1)
    · exact h.apart.2.1 (e ▸ h1))
  have hx := fun i (hi : i ∈ X) => hso i (.inr hi)
  exact ⟨by rw [row_set h.row]; rfl, h.steps.same (hso B (.inl rfl)), h.len, h.cap, fun i p v hp hv => (h.votes i p v hp hv).same hx (fun _ hi => hi), h.tasks.same (hx g h.gx) hx (fun _ hi => hi), h.gx, fun i hi => by rw [World.size_setCell]; exact h.xlow i hi, h.apart⟩
section
variable {w : World} {X : List Nat} {R B g c d : Nat} {z : RunP} {vs : List Value}
set_option maxHeartbeats 2000000 in
set_option maxRecDepth 100000 in
theorem rcancel_is (h : RnC w X R B g c d z vs) (h8 : z.ps.length ≤ 8) : Calls Tryz.prog 27 #[ptrV R] w (RcV w X R B g c d (cancelR z).1 (.int .i64 (cancelR z).2)) := by
  have HA := Lib.hid h
  have HS := Lib.hid (rstatus_is h h8)
  obtain ⟨r, hr⟩ : ∃ r, r = cancelR z := ⟨_, rfl⟩
  rw [← hr]
  have HR := Lib.hid hr
  obtain ⟨v, hv⟩ : ∃ v, v = statR z := ⟨_, rfl⟩
  rw [← hv] at HS
  have HV := Lib.hid hv
  clear h hr hv
  by_cases h0 : v = 0
  · have n0 : (v != 0) = false := by rw [bne_eq_false_iff_eq]; exact h0
    have HE := Lib.hid (show r = ({ z with over := true }, 0) by rw [HR.out, cancelR, if_neg (by rw [← HV.out, h0]; simp)])
    clear h0
    go_enter Tryz.func27, Tryz.ntmps27
    go_wp2_with fail
    refine HS.out.mono ?_
    rintro e w1 ⟨rfl, hb1⟩
    have hA1 := HA.out.later hb1
    obtain ⟨_, _, _, x3⟩ := hA1.cells
    have zf := freeH hA1.row 3
    have HF := Lib.hid (show RcV w X R B g c d r.1 (.int .i64 r.2) (.returned (.int .i64 r.2)) (w1.setCell ⟨R, 3, none⟩ (.bool true)) from by rw [HE.out]; exact RcV.of (hA1.setOver true) ((OnlyO.of_below (O := [R, B]) hb1).set (.inl (by simp)) _))
    clear hb1 hA1
    go_wp2_with fail
    go_ret
    have hf := HF.out
    rw [HE.out] at hf ⊢
    exact hf
  · have n0 : (v != 0) = true := by rw [bne_iff_ne]; exact h0
    have HE := Lib.hid (show r = (z, 12) by rw [HR.out, cancelR, if_pos (by rw [← HV.out]; exact h0)])
    clear h0
    go_enter Tryz.func27, Tryz.ntmps27
    go_wp2_with fail
    refine HS.out.mono ?_
    rintro e w1 ⟨rfl, hb1⟩
    have HB1 := Lib.hid hb1
    clear hb1
    go_wp2_with fail
    go_ret
    rw [HE.out]
    exact RcV.same HA.out HB1.out
set_option maxHeartbeats 4000000 in
set_option maxRecDepth 100000 in
theorem rlet_is (h : RnC w X R B g c d z vs) (hm : MayP z.pn z.ts) (hl : z.ps.length = z.ts.length) (i now : Int) :
    Calls Tryz.prog 25 #[ptrV R, .int .i64 i, .int .i64 now] w (RcV w X R B g c d (letR z i now).1 (.tuple #[.string (letR z i now).2.1, .int .i64 (letR z i now).2.2])) := by
  have h8 : z.ps.length ≤ 8 := by rw [hl]; exact hm.right.few.2
  have HA := Lib.hid h
  have HM := Lib.hid hm
  have HL := Lib.hid hl
  have HW := Lib.hid (rwrong_is h hl h8 i 1 1)
  obtain ⟨r, hr⟩ : ∃ r, r = letR z i now := ⟨_, rfl⟩
  rw [← hr]
  have HR := Lib.hid hr
  obtain ⟨v, hv⟩ : ∃ v, v = wrongE z i 1 1 := ⟨_, rfl⟩
  rw [← hv] at HW
  have HV := Lib.hid hv
  have HG := Lib.hid (wrong_gate (z := z) (i := i) (fun t ht => (hm.right.task t ht).need.1))
  clear h hm hl hr hv
  by_cases h0 : v = 0
  · have h0' := h0
    rw [HV.out] at h0'
    obtain ⟨j, t, p, hF⟩ := wrongE_zero HL.out h0'
    have hh : gateE z i = 0 := by rw [← HG.out]; exact h0'
    obtain rfl := hF.i_
    have HP := Lib.hid hF.pl
    have HT := Lib.hid hF.tk
    have n0 : (v != 0) = false := by rw [bne_eq_false_iff_eq]; exact h0
    obtain ⟨e1, e2, e3⟩ := held_zero hF
    have hneed : 0 < t.need := by
      have := hF.kind
      unfold kindI at this
      split at this
      · assumption
      · cases this
    have ha1 := HM.out.gate t (List.mem_of_getElem? HT.out) hneed
    obtain ⟨a, ha⟩ : ∃ a, t.after = [a] := by
      rcases hx : t.after with _ | ⟨a, _ | ⟨b, l⟩⟩
      · rw [hx] at ha1; cases ha1
      · exact ⟨a, rfl⟩
      · rw [hx] at ha1; simp at ha1
    have hal : a < z.ts.length := (HM.out.right.task t (List.mem_of_getElem? HT.out)).aft.1 a (by rw [ha]; exact List.mem_singleton.2 rfl)
    obtain ⟨pa, hpa⟩ : ∃ pa, z.ps[a]? = some pa := ⟨_, List.getElem?_eq_getElem (by rw [HL.out]; exact hal)⟩
    have HPA := Lib.hid hpa
    have HE := Lib.hid (show r = (advR (z.put j ⟨doneP p.tr, pa.out, [], false⟩) now, pa.out, 0) by
      rw [HR.out, letR, if_neg (by rw [hh]; simp), e2, e3, e1, ha]
      show (advR (z.put j ⟨doneP p.tr, (z.pl a).out, [], false⟩) now, (z.pl a).out, (0 : Int)) = _
      rw [pl_of hpa])
    have hk0 : (0 : Int) ≤ (j : Int) := by omega
    have hkl : (j : Int) < (z.ps.length : Int) := by have := (List.getElem?_eq_some_iff.1 HP.out).1; omega
    have hkt : (j : Int) < (z.ts.length : Int) := by have := (List.getElem?_eq_some_iff.1 HT.out).1; omega
    have hka0 : (0 : Int) ≤ (a : Int) := by omega
    have hkal : (a : Int) < (z.ps.length : Int) := by rw [HL.out]; omega
    have HAF := Lib.hid ha
    clear h0 h0' hh hF e1 e2 e3 ha ha1 hal hpa hneed
    go_enter Tryz.func25, Tryz.ntmps25
    go_wp2_with fail
    refine HW.out.mono ?_
    rintro e w1 ⟨rfl, hb1⟩
    have HA1 := Lib.hid (HA.out.later hb1)
    have HO1 := Lib.hid (OnlyO.of_below (O := [R, B]) hb1)
    clear hb1
    obtain ⟨_, x1, x2, _⟩ := HA1.out.cells
    obtain ⟨A, ea, hct, hN, _, _⟩ := HA1.out.task HT.out
    rw [HAF.out] at hN hct
    obtain ⟨ba, oa, rfl, hN2⟩ := hN.flat (by simp)
    have pa0 : w1.cell? ⟨ba, oa, none⟩ = some (.int .i64 (a : Int)) := hN2 0 (by simp)
    have pt := hct 1 _ rfl
    obtain ⟨Y, e, hv, _, _, hc⟩ := HA1.out.step HPA.out
    have po := hc 6 _ rfl
    clear hct hN hN2 hc hv
    go_upto_region 4 with fail
    obtain ⟨S, hS0, hSk, hSx, hSe⟩ := held_below w1
    have f1 := fun q : HeldW S => cell_later (hSx q) x1
    have f2 := fun q : HeldW S => cell_later (hSx q) x2
    have g0 := fun q : HeldW S => cell_later (hSx q) pa0
    have g1 := fun q : HeldW S => cell_later (hSx q) pt
    have g2 := fun q : HeldW S => cell_later (hSx q) po
    have HS0 := Lib.hid hS0
    have HSE := Lib.hid hSe
    clear hS0 hSk hSe hSx pa0 pt po x1 x2
    refine wp_region_kept S (by kernel_rfl) (by kernel_rfl) HS0.out ?_
    intro hne
    repeat (go_big_quiet_step (exact rfl))
    refine wpQuiet_nil ?_
    rintro w2 ⟨⟨_, hq2⟩, rfl⟩
    clear f1 f2 g0 g1 g2 hne
    have hb2 := HSE.out _ hq2
    have HA2 := Lib.hid (HA1.out.later hb2)
    have HO2 := Lib.hid (HO1.out.trans (OnlyO.of_below (O := [R, B]) hb2) New.refl)
    clear hq2 hb2 HSE HS0 HA1 HO1
    obtain ⟨_, x1, x2, _⟩ := HA2.out.cells
    obtain ⟨Y, e, hv, _, _, hc⟩ := HA2.out.step HP.out
    have p7 := hc 7 _ rfl
    have p8 := hc 8 _ rfl
    have zf := HA2.out.free
    have HA3 := Lib.hid (HA2.out.setVotes HP.out (Y := none) (e := 0) (ys := []) false (IntsC.none_ _) (fun _ h => by cases h))
    have HO3 := Lib.hid (HO2.out.trans (two_onlyO (W := w2) (B := B) (M := [R, B]) (o := j * 9 + 7) (p := j * 9 + 8) (by simp) (.slice none 0 0) (.bool false)) New.refl)
    clear hv hc HA2 HO2
    go_upto_region 6 with fail
    generalize hW3 : ((w2.setCell ⟨B, j * 9 + 7, none⟩ (.slice none 0 0)).setCell ⟨B, j * 9 + 8, none⟩ (.bool false)) = W3 at *
    have hA3 : RnC W3 (addX none [] X) R B g c d (z.put j { p with yes := [], no := false }) (vs.set j (.slice none 0 0)) := by
      exact HA3.out
    clear hW3 HA3 p7 p8 zf x1 x2
    have HDN := Lib.hid (rdone_is hA3 HM.out (by show (z.ps.set j _).length = _; rw [List.length_set]; exact HL.out) (put_get HP.out) now pa.out)
    clear hA3
    go_wp2_with fail
    refine HDN.out.mono ?_
    rintro e w4 ⟨rfl, h4, ho4⟩
    rw [put_put] at h4
    have HF := Lib.hid (show RcV w X R B g c d r.1 (.tuple #[.string r.2.1, .int .i64 r.2.2]) (.returned (.tuple #[.string r.2.1, .int .i64 r.2.2])) w4 from by
      rw [HE.out]
      exact ⟨rfl, addX none [] X, _, h4, HO3.out.trans ho4 New.refl, fun i hi => .inl (by unfold addX at hi; simpa using hi)⟩)
    clear h4 ho4
    go_wp2_with fail
    refine bodyPost_ret (results_tmp2 rfl _ _ _) rfl ?_
    have hf := HF.out
    rw [HE.out] at hf ⊢
    exact hf
  · have HE := Lib.hid (show r = (z, .empty, v) by rw [HR.out, letR, if_pos (by rw [← HG.out, ← HV.out]; exact h0), ← HG.out, ← HV.out])
    have n0 : (v != 0) = true := by rw [bne_iff_ne]; exact h0
    clear h0
    go_enter Tryz.func25, Tryz.ntmps25
    go_wp2_with fail
    refine HW.out.mono ?_
    rintro e w1 ⟨rfl, hb1⟩
    have HB1 := Lib.hid hb1
    clear hb1
    go_wp2_with fail
    refine bodyPost_ret (results_tmp2 rfl _ _ _) rfl ?_
    rw [HE.out]
    exact RcV.same HA.out HB1.out
set_option maxHeartbeats 4000000 in
set_option maxRecDepth 100000 in
theorem rvote_is (h : RnC w X R B g c d z vs) (hm : MayP z.pn z.ts) (hl : z.ps.length = z.ts.length) (hr : ∀ p ∈ z.ps, RisL p.yes) (i who : Int) (is : Bool) :
    Calls Tryz.prog 24 #[ptrV R, .int .i64 i, .int .i64 who, .bool is] w (RcV w X R B g c d (voteR z i who is).1 (.tuple #[.bool (voteR z i who is).2.1, .int .i64 (voteR z i who is).2.2])) := by
  have h8 : z.ps.length ≤ 8 := by rw [hl]; exact hm.right.few.2
  have HA := Lib.hid h
  have HL := Lib.hid hl
  have HRS := Lib.hid hr
  have HW := Lib.hid (rwrong_is h hl h8 i 1 1)
  obtain ⟨r, hr⟩ : ∃ r, r = voteR z i who is := ⟨_, rfl⟩
  rw [← hr]
  have HR := Lib.hid hr
  obtain ⟨v, hv⟩ : ∃ v, v = wrongE z i 1 1 := ⟨_, rfl⟩
  rw [← hv] at HW
  have HV := Lib.hid hv
  have HG := Lib.hid (wrong_gate (z := z) (i := i) (fun t ht => (hm.right.task t ht).need.1))
  clear h hm hl hr hv
  by_cases h0 : v = 0
  · have h0' := h0
    rw [HV.out] at h0'
    obtain ⟨j, t, p, hF⟩ := wrongE_zero HL.out h0'
    have hh : gateE z i = 0 := by rw [← HG.out]; exact h0'
    obtain rfl := hF.i_
    have HP := Lib.hid hF.pl
    have HT := Lib.hid hF.tk
    have n0 : (v != 0) = false := by rw [bne_eq_false_iff_eq]; exact h0
    obtain ⟨e1, e2, e3⟩ := held_zero hF
    have HE0 := Lib.hid (show r = if (is && p.yes.contains who) = true then (z, false, 7) else (z.put j { p with tr := if is then p.tr else ⟨4, 0, p.tr.ms, 0, 0, 0⟩, yes := yesV p.yes who is, no := noV p.no is }, mayV (yesV p.yes who is) (noV p.no is) t.need, 0) by
      rw [HR.out, voteR, if_neg (by rw [hh]; simp), e2, e3, e1])
    have HRI := Lib.hid (HRS.out p (List.mem_of_getElem? HP.out))
    have hk0 : (0 : Int) ≤ (j : Int) := by omega
    have hkl : (j : Int) < (z.ps.length : Int) := by have := (List.getElem?_eq_some_iff.1 HP.out).1; omega
    have hkt : (j : Int) < (z.ts.length : Int) := by have := (List.getElem?_eq_some_iff.1 HT.out).1; omega
    clear h0 h0' hh hF e1 e2 e3
    go_enter Tryz.func24, Tryz.ntmps24
    go_wp2_with fail
    refine HW.out.mono ?_
    rintro e w1 ⟨rfl, hb1⟩
    have HA1 := Lib.hid (HA.out.later hb1)
    have HB1 := Lib.hid hb1
    clear hb1
    obtain ⟨_, x1, x2, _⟩ := HA1.out.cells
    go_upto_region 5 with fail
    clear x1 x2
    cases is with
    | true =>
      have HE1 := Lib.hid (show r = if p.yes.contains who = true then (z, false, 7) else (z.put j { p with yes := yesV p.yes who true, no := noV p.no true }, mayV (yesV p.yes who true) (noV p.no true) t.need, 0) from HE0.out)
      obtain ⟨q, hq⟩ : ∃ q, q = p.yes.contains who := ⟨_, rfl⟩
      obtain ⟨Y, e, hv, hI, _, hc⟩ := HA1.out.step HP.out
      have p7 := hc 7 _ rfl
      have p8 := hc 8 _ rfl
      have hch := ghas_is p.no who hI (by have := HRI.out.len; omega)
      rw [← hq] at hch HE1
      have HCH := Lib.hid hch
      clear hv hI hc hch hq
      go_wp2_with fail
      refine HCH.out.mono ?_
      rintro e w2 ⟨rfl, hb2⟩
      have HA2 := Lib.hid (HA1.out.later hb2)
      have HB2 := Lib.hid (below_step HB1.out hb2)
      clear hb2 HA1 HB1 p7 p8 HCH
      cases q with
      | true =>
        have HE := Lib.hid (show r = (z, false, 7) from HE1.out)
        go_wp2_with fail
        refine bodyPost_ret (results_tmp2 rfl _ _ _) rfl ?_
        rw [HE.out]
        exact RcV.same HA.out HB2.out
      | false =>
        have HE := Lib.hid (show r = (z.put j { p with yes := yesV p.yes who true, no := noV p.no true }, mayV (yesV p.yes who true) (noV p.no true) t.need, 0) from HE1.out)
        obtain ⟨_, x1, x2, _⟩ := HA2.out.cells
        obtain ⟨Y, e, hv, hI, _, hc⟩ := HA2.out.step HP.out
        obtain ⟨A, ea, hct, _⟩ := HA2.out.task HT.out
        have p7 := hc 7 _ rfl
        have p8 := hc 8 _ rfl
        have pt := hct 4 _ rfl
        have HI := Lib.hid hI
        clear hv hI hc hct
        go_upto_region 7 with fail
        refine wp_region_noPanic ?_
        refine wp_region_held_drew (S := fun V => V.cell? ⟨R, 1, none⟩ = some (.slice (some ⟨g, 0, none⟩) z.ts.length c) ∧ V.cell? ⟨g, j * 7 + 4, none⟩ = some (.int .i64 t.need)) (by kernel_rfl) (by exact ⟨x1, pt⟩) (fun hHeld => ?_)
        refine take_yes 0 33 (v := ?_) rfl rfl (by kernel_rfl) (by kernel_rfl) (by kernel_rfl) noPanic_any (by rfl) hHeld ?_ ?_
        rotate_left
        · intro wx hSw; (try dsimp only at hSw); go_simp <;> with_reducible rfl
        simp only [Act.put, List.setIfInBounds_toArray, List.set_cons_zero, List.set_cons_succ]
        refine take_yes 1 34 (v := ?_) rfl rfl (by kernel_rfl) (by kernel_rfl) (by kernel_rfl) noPanic_any (by rfl) hHeld ?_ ?_
        rotate_left
        · intro wx hSw; (try dsimp only at hSw); go_simp <;> with_reducible rfl
        simp only [Act.put, List.setIfInBounds_toArray, List.set_cons_zero, List.set_cons_succ]
        refine take_yes 2 35 (v := ?_) rfl rfl (by kernel_rfl) (by kernel_rfl) (by kernel_rfl) noPanic_any (by rfl) hHeld ?_ ?_
        rotate_left
        · intro wx hSw; (try dsimp only at hSw); go_simp <;> with_reducible rfl
        simp only [Act.put, List.setIfInBounds_toArray, List.set_cons_zero, List.set_cons_succ]
        refine take_yes 3 36 (v := ?_) rfl rfl (by kernel_rfl) (by kernel_rfl) (by kernel_rfl) noPanic_any (by rfl) hHeld ?_ ?_
        rotate_left
        · intro wx hSw; (try dsimp only at hSw); go_simp <;> with_reducible rfl
        simp only [Act.put, List.setIfInBounds_toArray, List.set_cons_zero, List.set_cons_succ]
        refine take_yes 5 38 (v := ?_) rfl rfl (by kernel_rfl) (by kernel_rfl) (by kernel_rfl) noPanic_any (by rfl) hHeld ?_ ?_
        rotate_left
        · intro wx hSw; (try dsimp only at hSw); go_simp <;> with_reducible rfl
        simp only [Act.put, List.setIfInBounds_toArray, List.set_cons_zero, List.set_cons_succ]
        refine take_yes 6 39 (v := ?_) rfl rfl (by kernel_rfl) (by kernel_rfl) (by kernel_rfl) noPanic_any (by rfl) hHeld ?_ ?_
        rotate_left
        · intro wx hSw; (try dsimp only at hSw); go_simp <;> with_reducible rfl
        simp only [Act.put, List.setIfInBounds_toArray, List.set_cons_zero, List.set_cons_succ]
        refine take_yes 7 40 (v := ?_) rfl rfl (by kernel_rfl) (by kernel_rfl) (by kernel_rfl) noPanic_any (by rfl) hHeld ?_ ?_
        rotate_left
        · intro wx hSw; (try dsimp only at hSw); go_simp <;> with_reducible rfl
        simp only [Act.put, List.setIfInBounds_toArray, List.set_cons_zero, List.set_cons_succ]
        refine take_yes 8 41 (v := ?_) rfl rfl (by kernel_rfl) (by kernel_rfl) (by kernel_rfl) noPanic_any (by rfl) hHeld ?_ ?_
        rotate_left
        · intro wx hSw; (try dsimp only at hSw); go_simp <;> with_reducible rfl
        simp only [Act.put, List.setIfInBounds_toArray, List.set_cons_zero, List.set_cons_succ]
        refine take_yes 9 42 (v := ?_) rfl rfl (by kernel_rfl) (by kernel_rfl) (by kernel_rfl) noPanic_any (by rfl) hHeld ?_ ?_
        rotate_left
        · intro wx hSw; (try dsimp only at hSw); go_simp <;> with_reducible rfl
        simp only [Act.put, List.setIfInBounds_toArray, List.set_cons_zero, List.set_cons_succ]
        refine take_yes 10 43 (v := ?_) rfl rfl (by kernel_rfl) (by kernel_rfl) (by kernel_rfl) noPanic_any (by rfl) hHeld ?_ ?_
        rotate_left
        · intro wx hSw; (try dsimp only at hSw); go_simp <;> with_reducible rfl
        simp only [Act.put, List.setIfInBounds_toArray, List.set_cons_zero, List.set_cons_succ]
        refine take_yes 11 44 (v := ?_) rfl rfl (by kernel_rfl) (by kernel_rfl) (by kernel_rfl) noPanic_any (by rfl) hHeld ?_ ?_
        rotate_left
        · intro wx hSw; (try dsimp only at hSw); have y0 := hSw.1; go_simp <;> with_reducible rfl
        simp only [Act.put, List.setIfInBounds_toArray, List.set_cons_zero, List.set_cons_succ]
        refine take_yes 12 45 (v := ?_) rfl rfl (by kernel_rfl) (by kernel_rfl) (by kernel_rfl) noPanic_any (by rfl) hHeld ?_ ?_
        rotate_left
        · intro wx hSw; (try dsimp only at hSw); go_simp <;> with_reducible rfl
        simp only [Act.put, List.setIfInBounds_toArray, List.set_cons_zero, List.set_cons_succ]
        refine take_yes 13 46 (v := ?_) rfl rfl (by kernel_rfl) (by kernel_rfl) (by kernel_rfl) noPanic_any (by rfl) hHeld ?_ ?_
        rotate_left
        · intro wx hSw; (try dsimp only at hSw); go_simp <;> with_reducible rfl
        simp only [Act.put, List.setIfInBounds_toArray, List.set_cons_zero, List.set_cons_succ]
        refine take_yes 14 47 (v := ?_) rfl rfl (by kernel_rfl) (by kernel_rfl) (by kernel_rfl) noPanic_any (by rfl) hHeld ?_ ?_
        rotate_left
        · intro wx hSw; (try dsimp only at hSw); go_simp <;> with_reducible rfl
        simp only [Act.put, List.setIfInBounds_toArray, List.set_cons_zero, List.set_cons_succ]
        refine take_yes 15 48 (v := ?_) rfl rfl (by kernel_rfl) (by kernel_rfl) (by kernel_rfl) noPanic_any (by rfl) hHeld ?_ ?_
        rotate_left
        · intro wx hSw; (try dsimp only at hSw); have y0 := hSw.2; go_simp <;> with_reducible rfl
        simp only [Act.put, List.setIfInBounds_toArray, List.set_cons_zero, List.set_cons_succ]
        have HA3 := Lib.hid (HA2.out.later (Below.refl _ _).drew)
        have HB3 := Lib.hid (below_step HB2.out (Below.refl _ _).drew)
        have HI3 := Lib.hid (HI.out.later (Below.refl _ _).drew)
        have y7 := cell_later (Below.refl w2.heap.size w2).drew p7
        have y8 := cell_later (Below.refl w2.heap.size w2).drew p8
        generalize hW3 : w2.drew = W3 at *
        clear hW3 p7 p8 pt x1 x2 HI HA2 HB2
        refine one_readyH (i := 4) (by kernel_rfl) (wpOp_step rfl (fun KK hKK => ?_))
        have HKK := Lib.hid hKK
        clear hKK
        go_simp
        refine HKK.out _ _ ⟨hHeld, ?_⟩
        clear HKK KK
        (try simp only [Act.put, List.setIfInBounds_toArray, List.set_cons_zero, List.set_cons_succ])
        clear y7 y8
        refine one_readyH (i := 16) (by kernel_rfl) (wpOp_step rfl (fun KK hKK => ?_))
        have HKK := Lib.hid hKK
        clear hKK
        go_simp
        refine (gvote_any p.no true who t.need HI3.out HRI.out).mono ?_
        rintro e W4 ⟨Y4, b4, rfl, hI4, hb4, hn4⟩
        have hHeld : W4.cell? ⟨R, 1, none⟩ = some (.slice (some ⟨g, 0, none⟩) z.ts.length c) ∧ W4.cell? ⟨g, j * 7 + 4, none⟩ = some (.int .i64 t.need) := ⟨cell_later hb4 hHeld.1, cell_later hb4 hHeld.2⟩
        refine HKK.out _ _ ⟨hHeld, ?_⟩
        clear HKK KK
        have HI4 := Lib.hid hI4
        have HN4 := Lib.hid hn4
        have HA4 := Lib.hid (HA3.out.later hb4)
        have HO4 := Lib.hid (OnlyO.of_below (O := [R, B]) (below_step HB3.out hb4))
        have HRB := Lib.hid (show R < W3.heap.size ∧ B < W3.heap.size ∧ w.heap.size ≤ W3.heap.size from ⟨HA3.out.rlow, HA3.out.steps.low, HB3.out.size⟩)
        clear hI4 hb4 hn4 HA3 HB3 HI3
        obtain ⟨ys, hys⟩ : ∃ ys, ys = yesV p.yes who true := ⟨_, rfl⟩
        obtain ⟨no, hno⟩ : ∃ no, no = noV p.no true := ⟨_, rfl⟩
        obtain ⟨mv, hmv⟩ : ∃ mv, mv = mayV (yesV p.yes who true) (noV p.no true) t.need := ⟨_, rfl⟩
        rw [← hmv]
        rw [← hmv] at HE
        rw [← hys, ← hno] at HE
        rw [← hys] at HI4
        rw [← hys, ← hno]
        clear hys hno hmv
        (try simp only [Act.put, List.setIfInBounds_toArray, List.set_cons_zero, List.set_cons_succ])
        refine take_yes 17 32 (v := ?_) rfl rfl (by kernel_rfl) (by kernel_rfl) (by kernel_rfl) noPanic_any (by rfl) hHeld ?_ ?_
        rotate_left
        · intro wx hSw; (try dsimp only at hSw); go_simp <;> with_reducible rfl
        simp only [Act.put, List.setIfInBounds_toArray, List.set_cons_zero, List.set_cons_succ]
        refine take_yes 18 50 (v := ?_) rfl rfl (by kernel_rfl) (by kernel_rfl) (by kernel_rfl) noPanic_any (by rfl) hHeld ?_ ?_
        rotate_left
        · intro wx hSw; (try dsimp only at hSw); go_simp <;> with_reducible rfl
        simp only [Act.put, List.setIfInBounds_toArray, List.set_cons_zero, List.set_cons_succ]
        refine take_yes 19 51 (v := ?_) rfl rfl (by kernel_rfl) (by kernel_rfl) (by kernel_rfl) noPanic_any (by rfl) hHeld ?_ ?_
        rotate_left
        · intro wx hSw; (try dsimp only at hSw); go_simp <;> with_reducible rfl
        simp only [Act.put, List.setIfInBounds_toArray, List.set_cons_zero, List.set_cons_succ]
        refine one_readyH (i := 20) (by kernel_rfl) (wpOp_step rfl (fun KK hKK => ?_))
        have HKK := Lib.hid hKK
        clear hKK
        go_simp
        refine HKK.out _ _ ⟨hHeld, ?_⟩
        clear HKK KK
        (try simp only [Act.put, List.setIfInBounds_toArray, List.set_cons_zero, List.set_cons_succ])
        refine one_readyH (i := 21) (by kernel_rfl) (wpOp_step rfl (fun KK hKK => ?_))
        have HKK := Lib.hid hKK
        clear hKK
        go_simp
        refine HKK.out _ _ ⟨hHeld, ?_⟩
        clear HKK KK
        (try simp only [Act.put, List.setIfInBounds_toArray, List.set_cons_zero, List.set_cons_succ])
        have HA5 := Lib.hid (HA4.out.setVotes HP.out (Y := Y4) (e := b4) (ys := ys) no HI4.out (fun ad e => by have := HN4.out ad e; have := HRB.out; omega))
        have HO5 := Lib.hid (HO4.out.trans (two_onlyO (W := W4) (B := B) (M := [R, B]) (o := j * 9 + 7) (p := j * 9 + 8) (by simp) (.slice Y4 ys.length b4) (.bool no)) New.refl)
        have HNX := Lib.hid (show New X (addX Y4 ys X) w from fun i hi => by
          rcases addX_new hi with h1 | ⟨_, ad, e1, e2⟩
          · exact .inl h1
          · have := HN4.out ad e1
            have := HRB.out
            exact .inr (by omega))
        obtain ⟨_, hx5, _, _⟩ := HA5.out.cells
        obtain ⟨A5, e5, hct5, _⟩ := HA5.out.task HT.out
        have ht5 := hct5 4 _ rfl
        obtain ⟨Y5, d5, hv5, _, _, hc5⟩ := HA4.out.step HP.out
        have p7 := hc5 7 _ rfl
        have p8 := hc5 8 _ rfl
        have zf := HA4.out.free
        have HX5 := Lib.hid hx5
        have HT5 := Lib.hid ht5
        clear hct5 hv5 hc5 HA4 HO4 HI4 hx5 ht5 hHeld
        refine one_readyH (i := 22) (by kernel_rfl) (wpOp_step rfl (fun KK hKK => ?_))
        have HKK := Lib.hid hKK
        clear hKK
        go_simp
        refine HKK.out _ _ ⟨⟨HX5.out, HT5.out⟩, ?_⟩
        clear HKK KK
        (try simp only [Act.put, List.setIfInBounds_toArray, List.set_cons_zero, List.set_cons_succ])
        clear p7 p8 zf
        generalize hW5 : ((W4.setCell ⟨B, j * 9 + 7, none⟩ (.slice Y4 ys.length b4)).setCell ⟨B, j * 9 + 8, none⟩ (.bool no)) = W5 at *
        clear hW5
        refine one_readyH (i := 23) (by kernel_rfl) (wpOp_step rfl (fun KK hKK => ?_))
        have HKK := Lib.hid hKK
        clear hKK
        go_simp
        refine HKK.out _ _ ⟨⟨HX5.out, HT5.out⟩, ?_⟩
        clear HKK KK
        (try simp only [Act.put, List.setIfInBounds_toArray, List.set_cons_zero, List.set_cons_succ])
        refine wpAnyH_done (by kernel_rfl) ?_ _
        refine NoPanic.normal ?_
        have HF := Lib.hid (show RcV w X R B g c d r.1 (.tuple #[.bool r.2.1, .int .i64 r.2.2]) (.returned (.tuple #[.bool r.2.1, .int .i64 r.2.2])) W5 from by rw [HE.out]; exact ⟨rfl, _, _, HA5.out, HO5.out, HNX.out⟩)
        go_wp2_with fail
        refine bodyPost_ret (results_tmp2 rfl _ _ _) rfl ?_
        have hf := HF.out
        rw [HE.out] at hf ⊢
        exact hf
    | false =>
      have HE := Lib.hid (show r = (z.put j { p with tr := ⟨4, 0, p.tr.ms, 0, 0, 0⟩, yes := yesV p.yes who false, no := noV p.no false }, mayV (yesV p.yes who false) (noV p.no false) t.need, 0) from HE0.out)
      have HA2 := HA1
      have HB2 := HB1
      obtain ⟨w2, hw2⟩ : ∃ w2, w2 = w1 := ⟨_, rfl⟩
      rw [← hw2] at HA2 HB2 ⊢
      clear HA1 HB1 hw2
      obtain ⟨_, x1, x2, _⟩ := HA2.out.cells
      obtain ⟨Y, e, hv, hI, _, hc⟩ := HA2.out.step HP.out
      obtain ⟨A, ea, hct, _⟩ := HA2.out.task HT.out
      have p7 := hc 7 _ rfl
      have p8 := hc 8 _ rfl
      have pt := hct 4 _ rfl
      have HI := Lib.hid hI
      clear hv hI hc hct
      go_upto_region 7 with fail
      refine wp_region_noPanic ?_
      refine wp_region_held_drew (S := fun V => V.cell? ⟨R, 1, none⟩ = some (.slice (some ⟨g, 0, none⟩) z.ts.length c) ∧ V.cell? ⟨g, j * 7 + 4, none⟩ = some (.int .i64 t.need)) (by kernel_rfl) (by exact ⟨x1, pt⟩) (fun hHeld => ?_)
      refine take_yes 0 33 (v := ?_) rfl rfl (by kernel_rfl) (by kernel_rfl) (by kernel_rfl) noPanic_any (by rfl) hHeld ?_ ?_
      rotate_left
      · intro wx hSw; (try dsimp only at hSw); go_simp <;> with_reducible rfl
      simp only [Act.put, List.setIfInBounds_toArray, List.set_cons_zero, List.set_cons_succ]
      refine take_yes 1 34 (v := ?_) rfl rfl (by kernel_rfl) (by kernel_rfl) (by kernel_rfl) noPanic_any (by rfl) hHeld ?_ ?_
      rotate_left
      · intro wx hSw; (try dsimp only at hSw); go_simp <;> with_reducible rfl
      simp only [Act.put, List.setIfInBounds_toArray, List.set_cons_zero, List.set_cons_succ]
      refine take_yes 2 35 (v := ?_) rfl rfl (by kernel_rfl) (by kernel_rfl) (by kernel_rfl) noPanic_any (by rfl) hHeld ?_ ?_
      rotate_left
      · intro wx hSw; (try dsimp only at hSw); go_simp <;> with_reducible rfl
      simp only [Act.put, List.setIfInBounds_toArray, List.set_cons_zero, List.set_cons_succ]
      refine take_yes 3 36 (v := ?_) rfl rfl (by kernel_rfl) (by kernel_rfl) (by kernel_rfl) noPanic_any (by rfl) hHeld ?_ ?_
      rotate_left
      · intro wx hSw; (try dsimp only at hSw); go_simp <;> with_reducible rfl
      simp only [Act.put, List.setIfInBounds_toArray, List.set_cons_zero, List.set_cons_succ]
      refine take_yes 5 38 (v := ?_) rfl rfl (by kernel_rfl) (by kernel_rfl) (by kernel_rfl) noPanic_any (by rfl) hHeld ?_ ?_
      rotate_left
      · intro wx hSw; (try dsimp only at hSw); go_simp <;> with_reducible rfl
      simp only [Act.put, List.setIfInBounds_toArray, List.set_cons_zero, List.set_cons_succ]
      refine take_yes 6 39 (v := ?_) rfl rfl (by kernel_rfl) (by kernel_rfl) (by kernel_rfl) noPanic_any (by rfl) hHeld ?_ ?_
      rotate_left
      · intro wx hSw; (try dsimp only at hSw); go_simp <;> with_reducible rfl
      simp only [Act.put, List.setIfInBounds_toArray, List.set_cons_zero, List.set_cons_succ]
      refine take_yes 7 40 (v := ?_) rfl rfl (by kernel_rfl) (by kernel_rfl) (by kernel_rfl) noPanic_any (by rfl) hHeld ?_ ?_
      rotate_left
      · intro wx hSw; (try dsimp only at hSw); go_simp <;> with_reducible rfl
      simp only [Act.put, List.setIfInBounds_toArray, List.set_cons_zero, List.set_cons_succ]
      refine take_yes 8 41 (v := ?_) rfl rfl (by kernel_rfl) (by kernel_rfl) (by kernel_rfl) noPanic_any (by rfl) hHeld ?_ ?_
      rotate_left
      · intro wx hSw; (try dsimp only at hSw); go_simp <;> with_reducible rfl
      simp only [Act.put, List.setIfInBounds_toArray, List.set_cons_zero, List.set_cons_succ]
      refine take_yes 9 42 (v := ?_) rfl rfl (by kernel_rfl) (by kernel_rfl) (by kernel_rfl) noPanic_any (by rfl) hHeld ?_ ?_
      rotate_left
      · intro wx hSw; (try dsimp only at hSw); go_simp <;> with_reducible rfl
      simp only [Act.put, List.setIfInBounds_toArray, List.set_cons_zero, List.set_cons_succ]
      refine take_yes 10 43 (v := ?_) rfl rfl (by kernel_rfl) (by kernel_rfl) (by kernel_rfl) noPanic_any (by rfl) hHeld ?_ ?_
      rotate_left
      · intro wx hSw; (try dsimp only at hSw); go_simp <;> with_reducible rfl
      simp only [Act.put, List.setIfInBounds_toArray, List.set_cons_zero, List.set_cons_succ]
      refine take_yes 11 44 (v := ?_) rfl rfl (by kernel_rfl) (by kernel_rfl) (by kernel_rfl) noPanic_any (by rfl) hHeld ?_ ?_
      rotate_left
      · intro wx hSw; (try dsimp only at hSw); have y0 := hSw.1; go_simp <;> with_reducible rfl
      simp only [Act.put, List.setIfInBounds_toArray, List.set_cons_zero, List.set_cons_succ]
      refine take_yes 12 45 (v := ?_) rfl rfl (by kernel_rfl) (by kernel_rfl) (by kernel_rfl) noPanic_any (by rfl) hHeld ?_ ?_
      rotate_left
      · intro wx hSw; (try dsimp only at hSw); go_simp <;> with_reducible rfl
      simp only [Act.put, List.setIfInBounds_toArray, List.set_cons_zero, List.set_cons_succ]
      refine take_yes 13 46 (v := ?_) rfl rfl (by kernel_rfl) (by kernel_rfl) (by kernel_rfl) noPanic_any (by rfl) hHeld ?_ ?_
      rotate_left
      · intro wx hSw; (try dsimp only at hSw); go_simp <;> with_reducible rfl
      simp only [Act.put, List.setIfInBounds_toArray, List.set_cons_zero, List.set_cons_succ]
      refine take_yes 14 47 (v := ?_) rfl rfl (by kernel_rfl) (by kernel_rfl) (by kernel_rfl) noPanic_any (by rfl) hHeld ?_ ?_
      rotate_left
      · intro wx hSw; (try dsimp only at hSw); go_simp <;> with_reducible rfl
      simp only [Act.put, List.setIfInBounds_toArray, List.set_cons_zero, List.set_cons_succ]
      refine take_yes 15 48 (v := ?_) rfl rfl (by kernel_rfl) (by kernel_rfl) (by kernel_rfl) noPanic_any (by rfl) hHeld ?_ ?_
      rotate_left
      · intro wx hSw; (try dsimp only at hSw); have y0 := hSw.2; go_simp <;> with_reducible rfl
      simp only [Act.put, List.setIfInBounds_toArray, List.set_cons_zero, List.set_cons_succ]
      have HA3 := Lib.hid (HA2.out.later (Below.refl _ _).drew)
      have HB3 := Lib.hid (below_step HB2.out (Below.refl _ _).drew)
      have HI3 := Lib.hid (HI.out.later (Below.refl _ _).drew)
      have y7 := cell_later (Below.refl w2.heap.size w2).drew p7
      have y8 := cell_later (Below.refl w2.heap.size w2).drew p8
      generalize hW3 : w2.drew = W3 at *
      clear hW3 p7 p8 pt x1 x2 HI HA2 HB2
      refine one_readyH (i := 4) (by kernel_rfl) (wpOp_step rfl (fun KK hKK => ?_))
      have HKK := Lib.hid hKK
      clear hKK
      go_simp
      refine HKK.out _ _ ⟨hHeld, ?_⟩
      clear HKK KK
      (try simp only [Act.put, List.setIfInBounds_toArray, List.set_cons_zero, List.set_cons_succ])
      clear y7 y8
      refine one_readyH (i := 16) (by kernel_rfl) (wpOp_step rfl (fun KK hKK => ?_))
      have HKK := Lib.hid hKK
      clear hKK
      go_simp
      refine (gvote_any p.no false who t.need HI3.out HRI.out).mono ?_
      rintro e W4 ⟨Y4, b4, rfl, hI4, hb4, hn4⟩
      have hHeld : W4.cell? ⟨R, 1, none⟩ = some (.slice (some ⟨g, 0, none⟩) z.ts.length c) ∧ W4.cell? ⟨g, j * 7 + 4, none⟩ = some (.int .i64 t.need) := ⟨cell_later hb4 hHeld.1, cell_later hb4 hHeld.2⟩
      refine HKK.out _ _ ⟨hHeld, ?_⟩
      clear HKK KK
      have HI4 := Lib.hid hI4
      have HN4 := Lib.hid hn4
      have HA4 := Lib.hid (HA3.out.later hb4)
      have HO4 := Lib.hid (OnlyO.of_below (O := [R, B]) (below_step HB3.out hb4))
      have HRB := Lib.hid (show R < W3.heap.size ∧ B < W3.heap.size ∧ w.heap.size ≤ W3.heap.size from ⟨HA3.out.rlow, HA3.out.steps.low, HB3.out.size⟩)
      clear hI4 hb4 hn4 HA3 HB3 HI3
      obtain ⟨ys, hys⟩ : ∃ ys, ys = yesV p.yes who false := ⟨_, rfl⟩
      obtain ⟨no, hno⟩ : ∃ no, no = noV p.no false := ⟨_, rfl⟩
      obtain ⟨mv, hmv⟩ : ∃ mv, mv = mayV (yesV p.yes who false) (noV p.no false) t.need := ⟨_, rfl⟩
      rw [← hmv]
      rw [← hmv] at HE
      rw [← hys, ← hno] at HE
      rw [← hys] at HI4
      rw [← hys, ← hno]
      clear hys hno hmv
      (try simp only [Act.put, List.setIfInBounds_toArray, List.set_cons_zero, List.set_cons_succ])
      refine take_yes 17 32 (v := ?_) rfl rfl (by kernel_rfl) (by kernel_rfl) (by kernel_rfl) noPanic_any (by rfl) hHeld ?_ ?_
      rotate_left
      · intro wx hSw; (try dsimp only at hSw); go_simp <;> with_reducible rfl
      simp only [Act.put, List.setIfInBounds_toArray, List.set_cons_zero, List.set_cons_succ]
      refine take_yes 18 50 (v := ?_) rfl rfl (by kernel_rfl) (by kernel_rfl) (by kernel_rfl) noPanic_any (by rfl) hHeld ?_ ?_
      rotate_left
      · intro wx hSw; (try dsimp only at hSw); go_simp <;> with_reducible rfl
      simp only [Act.put, List.setIfInBounds_toArray, List.set_cons_zero, List.set_cons_succ]
      refine take_yes 19 51 (v := ?_) rfl rfl (by kernel_rfl) (by kernel_rfl) (by kernel_rfl) noPanic_any (by rfl) hHeld ?_ ?_
      rotate_left
      · intro wx hSw; (try dsimp only at hSw); go_simp <;> with_reducible rfl
      simp only [Act.put, List.setIfInBounds_toArray, List.set_cons_zero, List.set_cons_succ]
      refine one_readyH (i := 20) (by kernel_rfl) (wpOp_step rfl (fun KK hKK => ?_))
      have HKK := Lib.hid hKK
      clear hKK
      go_simp
      refine HKK.out _ _ ⟨hHeld, ?_⟩
      clear HKK KK
      (try simp only [Act.put, List.setIfInBounds_toArray, List.set_cons_zero, List.set_cons_succ])
      refine one_readyH (i := 21) (by kernel_rfl) (wpOp_step rfl (fun KK hKK => ?_))
      have HKK := Lib.hid hKK
      clear hKK
      go_simp
      refine HKK.out _ _ ⟨hHeld, ?_⟩
      clear HKK KK
      (try simp only [Act.put, List.setIfInBounds_toArray, List.set_cons_zero, List.set_cons_succ])
      have HA5 := Lib.hid (HA4.out.setVotes HP.out (Y := Y4) (e := b4) (ys := ys) no HI4.out (fun ad e => by have := HN4.out ad e; have := HRB.out; omega))
      have HO5 := Lib.hid (HO4.out.trans (two_onlyO (W := W4) (B := B) (M := [R, B]) (o := j * 9 + 7) (p := j * 9 + 8) (by simp) (.slice Y4 ys.length b4) (.bool no)) New.refl)
      have HNX := Lib.hid (show New X (addX Y4 ys X) w from fun i hi => by
        rcases addX_new hi with h1 | ⟨_, ad, e1, e2⟩
        · exact .inl h1
        · have := HN4.out ad e1
          have := HRB.out
          exact .inr (by omega))
      obtain ⟨_, hx5, _, _⟩ := HA5.out.cells
      obtain ⟨A5, e5, hct5, _⟩ := HA5.out.task HT.out
      have ht5 := hct5 4 _ rfl
      obtain ⟨Y5, d5, hv5, _, _, hc5⟩ := HA4.out.step HP.out
      have p7 := hc5 7 _ rfl
      have p8 := hc5 8 _ rfl
      have zf := HA4.out.free
      have HX5 := Lib.hid hx5
      have HT5 := Lib.hid ht5
      clear hct5 hv5 hc5 HA4 HO4 HI4 hx5 ht5 hHeld
      refine one_readyH (i := 22) (by kernel_rfl) (wpOp_step rfl (fun KK hKK => ?_))
      have HKK := Lib.hid hKK
      clear hKK
      go_simp
      refine HKK.out _ _ ⟨⟨HX5.out, HT5.out⟩, ?_⟩
      clear HKK KK
      (try simp only [Act.put, List.setIfInBounds_toArray, List.set_cons_zero, List.set_cons_succ])
      clear p7 p8 zf
      generalize hW5 : ((W4.setCell ⟨B, j * 9 + 7, none⟩ (.slice Y4 ys.length b4)).setCell ⟨B, j * 9 + 8, none⟩ (.bool no)) = W5 at *
      clear hW5
      refine one_readyH (i := 23) (by kernel_rfl) (wpOp_step rfl (fun KK hKK => ?_))
      have HKK := Lib.hid hKK
      clear hKK
      go_simp
      refine HKK.out _ _ ⟨⟨HX5.out, HT5.out⟩, ?_⟩
      clear HKK KK
      (try simp only [Act.put, List.setIfInBounds_toArray, List.set_cons_zero, List.set_cons_succ])
      refine wpAnyH_done (by kernel_rfl) ?_ _
      refine NoPanic.normal ?_
      have HFL := Lib.hid (rfail_is HA5.out (put_get HP.out))
      go_wp2_with fail
      refine HFL.out.mono ?_
      rintro e W6 ⟨rfl, h6, ho6⟩
      rw [put_put] at h6
      have HF := Lib.hid (show RcV w X R B g c d r.1 (.tuple #[.bool r.2.1, .int .i64 r.2.2]) (.returned (.tuple #[.bool r.2.1, .int .i64 r.2.2])) W6 from by rw [HE.out]; exact ⟨rfl, _, _, h6, HO5.out.trans ho6 New.refl, HNX.out⟩)
      clear h6 ho6
      go_wp2_with fail
      refine bodyPost_ret (results_tmp2 rfl _ _ _) rfl ?_
      have hf := HF.out
      rw [HE.out] at hf ⊢
      exact hf
  · have HE := Lib.hid (show r = (z, false, v) by rw [HR.out, voteR, if_pos (by rw [← HG.out, ← HV.out]; exact h0), ← HG.out, ← HV.out])
    have n0 : (v != 0) = true := by rw [bne_iff_ne]; exact h0
    clear h0
    go_enter Tryz.func24, Tryz.ntmps24
    go_wp2_with fail
    refine HW.out.mono ?_
    rintro e w1 ⟨rfl, hb1⟩
    have HB1 := Lib.hid hb1
    clear hb1
    go_wp2_with fail
    refine bodyPost_ret (results_tmp2 rfl _ _ _) rfl ?_
    rw [HE.out]
    exact RcV.same HA.out HB1.out
end
end Go.Proofs.YtfjaibaidpbppaaGreatDoor
