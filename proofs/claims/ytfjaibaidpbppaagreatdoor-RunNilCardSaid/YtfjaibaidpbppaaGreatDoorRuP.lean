/-
  The program's run: New of what may not be, Copy, Pipe, Input. Conditions: a run of a pipeline that may be. The program's run: Write. Conditions: a run of a pipeline that may be, small numbers, the Writer's blocks apart from the run's. The program's run: its pipeline written, and Write. Conditions: a run of a pipeline that may be, small numbers, the Writer's blocks apart from the run's. The program's run: Write. Conditions: a run of a pipeline that may be, small numbers, the Writer's blocks apart from the run's.
-/
import Derived.Test.YtfjaibaidpbppaaGreatDoorRuL
import Derived.Test.YtfjaibaidpbppaaGreatDoorCodBa
import Derived.Test.YtfjaibaidpbppaaGreatDoorLsRd
import Derived.Test.YtfjaibaidpbppaaGreatDoorGtWr
namespace Go.Proofs.YtfjaibaidpbppaaGreatDoor
open Go.RowKit

def stQ (q : PlP × Value) : List Value := stC q.1 q.2
theorem stQ_len (q : PlP × Value) : (stQ q).length = 9 := rfl
@[go_sem ↓] theorem nilSteps (w : World) (a : Option Addr) (n c : Nat) : (binOp .eql 68 (.slice a n c) (.slice none 0 0)).run Tryz.prog w = .ok (.bool a.isNone) w := Lib.run_eql_slice_nil w _ 77 a n c 0 0 Tryz.underlying68
section
variable {w : World} {X : List Nat} {R B g c d : Nat} {z : RunP} {vs : List Value}
set_option maxHeartbeats 1000000 in
set_option maxRecDepth 100000 in
theorem rnew_no {A : Option Addr} {c : Nat} {n : ByteArray} {ts : List TkP} (hA : TksAt w A ts) (hF : FewT n ts) (hm : ¬ MayP n ts) (now : Int) :
    Calls Tryz.prog 10 #[.agg #[.string n, .slice A ts.length c], .int .i64 now] w fun e w' => e = .returned (.pointer none) ∧ Below w.heap.size w w' := by
  have b0 := (Below.refl w.heap.size w).alloc (Nat.le_refl _) (.cells #[.string n, .slice A ts.length c] 24)
  have HB0 := Lib.hid b0
  have HX := Lib.hid (made_at w (.cells #[.string n, .slice A ts.length c] 24))
  have HFT := Lib.hid (rfit_no (c := c) (hA.later b0) hF hm)
  clear hA hF hm b0
  go_enter Tryz.func10, Tryz.ntmps10
  go_upto_region 1 with fail
  generalize hW0 : (w.alloc (.cells #[.string n, .slice A ts.length c] 24)) = W0 at *
  clear hW0
  have x0 := cellH HX.out 0
  have x1 := cellH HX.out 1
  simp at x0 x1
  go_wp2_with fail
  refine HFT.out.mono ?_
  rintro e w1 ⟨rfl, hb1⟩
  have HB1 := Lib.hid (below_step HB0.out hb1)
  clear hb1 x0 x1
  go_wp2_with fail
  go_ret
  exact ⟨rfl, HB1.out⟩
set_option maxHeartbeats 1000000 in
set_option maxRecDepth 100000 in
theorem sclone_is (h : RnC w X R B g c d z vs) (h1 : 1 ≤ z.ps.length) (h8 : z.ps.length ≤ 64) :
    Calls Tryz.prog 44 #[.slice (some ⟨B, 0, none⟩) z.ps.length d] w fun e w' => ∃ T b, e = .returned (.slice (some ⟨T, 0, none⟩) z.ps.length b) ∧ StAt w' T z.ps vs ∧ z.ps.length ≤ b ∧ w.heap.size ≤ T ∧ Below w.heap.size w w' := by
  obtain ⟨i0, hi, hz0, hz1, hz2⟩ := info_all info_step
  have HCE := Lib.hid (show ∀ j u, ((z.ps.zip vs).flatMap stQ)[j]? = some u → w.cell? ((⟨B, 0, none⟩ : Addr).add j) = some u from fun j u hu => by
    obtain ⟨q, h1, h2⟩ := flat_inv stQ 9 stQ_len (by omega) _ j u hu
    rw [List.getElem?_zip_eq_some] at h1
    have h3 := h.steps.cell h1.1 h1.2 h2
    rw [show j / 9 * 9 + j % 9 = j by omega] at h3
    rw [add0]
    exact h3)
  have HONE := Lib.hid (show ∀ u ∈ (z.ps.zip vs).flatMap stQ, u.oneCell' = true from fun u hu => by
    obtain ⟨q, hq, hu2⟩ := List.mem_flatMap.1 hu
    obtain ⟨i, hi⟩ := List.mem_iff_getElem?.1 hq
    rw [List.getElem?_zip_eq_some] at hi
    obtain ⟨Y, e, he, _⟩ := h.votes i q.1 q.2 hi.1 hi.2
    unfold stQ stC at hu2
    rw [he] at hu2
    simp only [List.mem_cons, List.not_mem_nil, or_false] at hu2
    rcases hu2 with rfl | rfl | rfl | rfl | rfl | rfl | rfl | rfl | rfl <;> rfl)
  have hzl : (z.ps.zip vs).length = z.ps.length := by rw [List.length_zip, h.len]; omega
  have HLE := Lib.hid (show ((z.ps.zip vs).flatMap stQ).length = z.ps.length * 9 by rw [flat_len stQ 9 stQ_len, hzl])
  have H1 := Lib.hid h1
  clear h hzl h1
  go_enter Tryz.func44, Tryz.ntmps44
  go_wp2_with (at_builtin; refine wpList_append_own _ rfl _ _ 68 rfl w.heap.size 77 i0 _ 9 96 Tryz.underlying68 hi hz0 hz1 hz2 rfl (by omega) (.slice (some ⟨w.heap.size, 0, none⟩) 0 0) 0 [] rfl (World.ownsRow_lit w #[] 0 (Nat.le_refl _) (by unfold maxLen; omega) rfl) ⟨B, 0, none⟩ z.ps.length d ((z.ps.zip vs).flatMap stQ) rfl HLE.out (fun j u hu => cell_alloc (HCE.out j u hu)) HONE.out (by unfold maxLen; omega) (by omega) (by simp) ?_; intro v1 w1 hown1 hg1 _)
  have hown2 : w1.ownsRow w.heap.size 77 9 v1 z.ps.length ((z.ps.zip vs).flatMap stQ) := by simpa using hown1
  obtain ⟨T, b, cur, rfl, hT, hTb, hcs, hcap⟩ : ∃ T b cur, v1 = .slice (some ⟨T, 0, none⟩) z.ps.length b ∧ w1.heap[T]? = some (.cells cur 77 (0, 0)) ∧ w.heap.size ≤ T ∧ (∀ j u, ((z.ps.zip vs).flatMap stQ)[j]? = some u → cur[j]? = some u) ∧ z.ps.length ≤ b := by
    rcases hown2.2 with ⟨_, h0⟩ | ⟨g, cap, cur, e, h⟩
    · have := H1.out
      omega
    · obtain ⟨hb, hg, hn, _, hsz, htk⟩ := h
      refine ⟨g, cap, cur, e, hg, hb, fun j u hu => ?_, hn⟩
      rw [← htk] at hu
      have hj := (List.getElem?_eq_some_iff.1 hu).1
      rw [List.length_take] at hj
      rw [List.getElem?_take_of_lt (by omega), Array.getElem?_toList] at hu
      exact hu
  go_ret
  refine ⟨T, b, rfl, ⟨cur, hT, fun i t v ht hv j u hu => hcs _ _ (flat_at stQ 9 stQ_len _ i (t, v) j u (by rw [List.getElem?_zip_eq_some]; exact ⟨ht, hv⟩) hu)⟩, hcap, hTb, ((Below.refl _ _).alloc (Nat.le_refl _) _).grown hg1 (by simp) (by simp [Value.ownBlock])⟩
/-- What Copy answers. -/
def CpyOut (w : World) (X : List Nat) (z : RunP) (e : Ending) (w' : World) : Prop := ∃ Q M' X', e = .returned (ptrV Q) ∧ rnAt w' M' X' Q z ∧ Below w.heap.size w w' ∧ (∀ i ∈ M', w.heap.size ≤ i) ∧ New X X' w
set_option maxHeartbeats 4000000 in
set_option maxRecDepth 100000 in
theorem rcopy_is (h : RnC w X R B g c d z vs) (h1 : 1 ≤ z.ps.length) (h8 : z.ps.length ≤ 8) : Calls Tryz.prog 15 #[ptrV R] w (CpyOut w X z) := by
  obtain ⟨x0, x1, x2, x3⟩ := h.cells
  have HA := Lib.hid h
  have H1 := Lib.hid h1
  clear h h1
  go_enter Tryz.func15, Tryz.ntmps15
  go_upto_region 3 with fail
  refine wp_region_noPanic ?_
  refine wp_region_held_drew (S := fun V => Below w.heap.size w V) (by kernel_rfl) (by exact (Below.refl _ _).drew) (fun hHeld => ?_)
  refine take_yes 0 5 (v := ?_) rfl rfl (by kernel_rfl) (by kernel_rfl) (by kernel_rfl) noPanic_any (by rfl) hHeld ?_ ?_
  rotate_left
  · intro wx hSw; (try dsimp only at hSw); go_simp <;> with_reducible rfl
  simp only [Act.put, List.setIfInBounds_toArray, List.set_cons_zero, List.set_cons_succ]
  refine take_yes 1 6 (v := ?_) rfl rfl (by kernel_rfl) (by kernel_rfl) (by kernel_rfl) noPanic_any (by rfl) hHeld ?_ ?_
  rotate_left
  · intro wx hSw; (try dsimp only at hSw); go_simp <;> with_reducible rfl
  simp only [Act.put, List.setIfInBounds_toArray, List.set_cons_zero, List.set_cons_succ]
  refine take_yes 2 7 (v := ?_) rfl rfl (by kernel_rfl) (by kernel_rfl) (by kernel_rfl) noPanic_any (by rfl) hHeld ?_ ?_
  rotate_left
  · intro wx hSw; (try dsimp only at hSw); go_simp <;> with_reducible rfl
  simp only [Act.put, List.setIfInBounds_toArray, List.set_cons_zero, List.set_cons_succ]
  refine take_yes 3 8 (v := ?_) rfl rfl (by kernel_rfl) (by kernel_rfl) (by kernel_rfl) noPanic_any (by rfl) hHeld ?_ ?_
  rotate_left
  · intro wx hSw; (try dsimp only at hSw); have y0 := cell_later hSw x0; have y1 := cell_later hSw x1; go_simp <;> with_reducible rfl
  simp only [Act.put, List.setIfInBounds_toArray, List.set_cons_zero, List.set_cons_succ]
  refine take_yes 4 9 (v := ?_) rfl rfl (by kernel_rfl) (by kernel_rfl) (by kernel_rfl) noPanic_any (by rfl) hHeld ?_ ?_
  rotate_left
  · intro wx hSw; (try dsimp only at hSw); go_simp <;> with_reducible rfl
  simp only [Act.put, List.setIfInBounds_toArray, List.set_cons_zero, List.set_cons_succ]
  refine take_yes 5 10 (v := ?_) rfl rfl (by kernel_rfl) (by kernel_rfl) (by kernel_rfl) noPanic_any (by rfl) hHeld ?_ ?_
  rotate_left
  · intro wx hSw; (try dsimp only at hSw); go_simp <;> with_reducible rfl
  simp only [Act.put, List.setIfInBounds_toArray, List.set_cons_zero, List.set_cons_succ]
  refine take_yes 6 11 (v := ?_) rfl rfl (by kernel_rfl) (by kernel_rfl) (by kernel_rfl) noPanic_any (by rfl) hHeld ?_ ?_
  rotate_left
  · intro wx hSw; (try dsimp only at hSw); go_simp <;> with_reducible rfl
  simp only [Act.put, List.setIfInBounds_toArray, List.set_cons_zero, List.set_cons_succ]
  refine take_yes 7 12 (v := ?_) rfl rfl (by kernel_rfl) (by kernel_rfl) (by kernel_rfl) noPanic_any (by rfl) hHeld ?_ ?_
  rotate_left
  · intro wx hSw; (try dsimp only at hSw); have y2 := cell_later hSw x2; go_simp <;> with_reducible rfl
  simp only [Act.put, List.setIfInBounds_toArray, List.set_cons_zero, List.set_cons_succ]
  refine take_yes 9 14 (v := ?_) rfl rfl (by kernel_rfl) (by kernel_rfl) (by kernel_rfl) noPanic_any (by rfl) hHeld ?_ ?_
  rotate_left
  · intro wx hSw; (try dsimp only at hSw); go_simp <;> with_reducible rfl
  simp only [Act.put, List.setIfInBounds_toArray, List.set_cons_zero, List.set_cons_succ]
  refine take_yes 10 15 (v := ?_) rfl rfl (by kernel_rfl) (by kernel_rfl) (by kernel_rfl) noPanic_any (by rfl) hHeld ?_ ?_
  rotate_left
  · intro wx hSw; (try dsimp only at hSw); go_simp <;> with_reducible rfl
  simp only [Act.put, List.setIfInBounds_toArray, List.set_cons_zero, List.set_cons_succ]
  refine take_yes 11 16 (v := ?_) rfl rfl (by kernel_rfl) (by kernel_rfl) (by kernel_rfl) noPanic_any (by rfl) hHeld ?_ ?_
  rotate_left
  · intro wx hSw; (try dsimp only at hSw); go_simp <;> with_reducible rfl
  simp only [Act.put, List.setIfInBounds_toArray, List.set_cons_zero, List.set_cons_succ]
  refine take_yes 12 17 (v := ?_) rfl rfl (by kernel_rfl) (by kernel_rfl) (by kernel_rfl) noPanic_any (by rfl) hHeld ?_ ?_
  rotate_left
  · intro wx hSw; (try dsimp only at hSw); have y3 := cell_later hSw x3; go_simp <;> with_reducible rfl
  simp only [Act.put, List.setIfInBounds_toArray, List.set_cons_zero, List.set_cons_succ]
  have HA3 := Lib.hid (HA.out.later hHeld)
  generalize w.drew = W3 at *
  clear x0 x1 x2 x3
  refine one_readyH (i := 8) (by kernel_rfl) (wpOp_step rfl (fun KK hKK => ?_))
  have HKK := Lib.hid hKK
  clear hKK
  go_simp
  refine (sclone_is HA3.out H1.out (by omega)).mono ?_
  rintro e W4 ⟨T, b, rfl, hT, hb, hlo, hb4⟩
  have hsz := hHeld.size
  have hHeld := below_step hHeld hb4
  refine HKK.out _ _ ⟨hHeld, ?_⟩
  clear HKK KK
  have HA4 := Lib.hid (HA.out.later hHeld)
  have HCR := Lib.hid (show RnC (W4.alloc (.cells #[.string z.pn, .slice (some ⟨g, 0, none⟩) z.ts.length c, .slice (some ⟨T, 0, none⟩) z.ps.length b, .bool z.over] 70)) X W4.heap.size T g c b z vs from RnC.made HA4.out.tasks HA4.out.xlow HA4.out.gx hT (fun hm => by have := HA.out.xlow _ hm; omega) HA4.out.len ⟨HA4.out.cap.1, hb⟩ HA4.out.votes)
  have HLO := Lib.hid (show w.heap.size ≤ W4.heap.size ∧ w.heap.size ≤ T from ⟨hHeld.size, by omega⟩)
  clear hT hb hlo hb4 HA3 hsz
  (try simp only [Act.put, List.setIfInBounds_toArray, List.set_cons_zero, List.set_cons_succ])
  refine one_readyH (i := 13) (by kernel_rfl) (wpOp_step rfl (fun KK hKK => ?_))
  have HKK := Lib.hid hKK
  clear hKK
  go_simp
  refine HKK.out _ _ ⟨hHeld, ?_⟩
  clear HKK KK
  (try simp only [Act.put, List.setIfInBounds_toArray, List.set_cons_zero, List.set_cons_succ])
  refine one_readyH (i := 14) (by kernel_rfl) (wpOp_step rfl (fun KK hKK => ?_))
  have HKK := Lib.hid hKK
  clear hKK
  go_simp
  refine HKK.out _ _ ⟨hHeld.alloc hHeld.size _, ?_⟩
  clear HKK KK
  (try simp only [Act.put, List.setIfInBounds_toArray, List.set_cons_zero, List.set_cons_succ])
  have hHeld := hHeld.alloc hHeld.size (.cells #[.string z.pn, .slice (some ⟨g, 0, none⟩) z.ts.length c, .slice (some ⟨T, 0, none⟩) z.ps.length b, .bool z.over] 70)
  refine one_readyH (i := 15) (by kernel_rfl) (wpOp_step rfl (fun KK hKK => ?_))
  have HKK := Lib.hid hKK
  clear hKK
  go_simp
  refine HKK.out _ _ ⟨hHeld, ?_⟩
  clear HKK KK
  (try simp only [Act.put, List.setIfInBounds_toArray, List.set_cons_zero, List.set_cons_succ])
  refine wpAnyH_done (by kernel_rfl) ?_ _
  refine NoPanic.normal ?_
  have HF := Lib.hid (show CpyOut w X z (.returned (ptrV W4.heap.size)) (W4.alloc (.cells #[.string z.pn, .slice (some ⟨g, 0, none⟩) z.ts.length c, .slice (some ⟨T, 0, none⟩) z.ps.length b, .bool z.over] 70)) from ⟨W4.heap.size, [W4.heap.size, T], X, rfl, ⟨T, g, c, b, vs, rfl, HCR.out⟩, hHeld, fun i hi => by simp at hi; rcases hi with rfl | rfl; exact HLO.out.1; exact HLO.out.2, New.refl⟩)
  clear hHeld
  go_wp2_with fail
  go_ret
  exact HF.out
theorem info_pipe3 : (Tryz.prog.info? 24).map (·.size) = some 2 := by kernel_rfl
/-- What Pipe answers. -/
def PipOut (w : World) (z : RunP) (e : Ending) (w' : World) : Prop := ∃ B c, e = .returned (.agg #[.string z.pn, .slice B z.ts.length c]) ∧ TksAt w' B z.ts ∧ Below w.heap.size w w'
set_option maxHeartbeats 4000000 in
set_option maxRecDepth 100000 in
theorem rnpipe_is (h : RnC w X R B g c d z vs) (hm : MayP z.pn z.ts) : Calls Tryz.prog 21 #[ptrV R] w (PipOut w z) := by
  have hb0 := (Below.refl w.heap.size w).alloc (Nat.le_refl _) (.cells #[.string ⟨#[]⟩, .slice none 0 0] 24)
  have hA1 := h.later hb0
  have HR := Lib.hid (made_at w (.cells #[.string ⟨#[]⟩, .slice none 0 0] 24))
  have HB0 := Lib.hid hb0
  obtain ⟨x0, x1, _, _⟩ := hA1.cells
  have HC := Lib.hid (rclone_is (n := z.pn) (c := c) hA1.tasks.tks hm.right.few.1 hm.right.few.2 (fun t ht => (hm.few.task t ht).1))
  clear h hm hb0 hA1
  go_enter Tryz.func21, Tryz.ntmps21
  go_upto_region 3 with fail
  generalize hW0 : (w.alloc (.cells #[.string ⟨#[]⟩, .slice none 0 0] 24)) = W0 at *
  clear hW0
  go_wp2_with fail
  refine HC.out.mono ?_
  rintro e w1 ⟨T, c1, X1, rfl, hT, hgx, hX, hc1, hb1⟩
  have hr1 := later_at hb1 HR.out
  have z0 := cellH hr1 0
  have z1 := cellH hr1 1
  have f0 := freeH hr1
  simp at z0 z1
  have HR1 := Lib.hid hr1
  have hsz : w.heap.size < W0.heap.size := (Array.getElem?_eq_some_iff.1 HR.out).1
  have HF := Lib.hid (show PipOut w z (.returned (.agg #[.string z.pn, .slice (some ⟨T, 0, none⟩) z.ts.length c1])) ((w1.setCell ⟨w.heap.size, 0, none⟩ (.string z.pn)).setCell ⟨w.heap.size, 1, none⟩ (.slice (some ⟨T, 0, none⟩) z.ts.length c1)) from by
    have hne : ∀ i ∈ X1, i ≠ w.heap.size := fun i hi => by have := (hX i hi).1; omega
    refine ⟨_, _, rfl, (hT.same (V := (w1.setCell ⟨w.heap.size, 0, none⟩ (.string z.pn)).setCell ⟨w.heap.size, 1, none⟩ (.slice (some ⟨T, 0, none⟩) z.ts.length c1)) (X' := X1) ((set_other (hne T hgx)).trans (set_other (hne T hgx))) (fun i hi => (set_other (hne i hi)).trans (set_other (hne i hi))) (fun _ hi => hi)).tks, ((below_step HB0.out hb1).setCell (p := ⟨w.heap.size, 0, none⟩) (Nat.le_refl _) _).setCell (p := ⟨w.heap.size, 1, none⟩) (Nat.le_refl _) _⟩)
  clear hT hgx hX hc1 hb1 hr1 hsz x0 x1
  go_wp2_with fail
  exact bodyPost_ret (results_cell_row (fn := Tryz.f21) rfl _ _ w.heap.size 24 #[.string z.pn, .slice (some ⟨T, 0, none⟩) z.ts.length c1] (0, 0) _ rfl (by rw [row_set (row_set HR1.out)]; rfl) Tryz.underlying24 rfl info_pipe3) rfl HF.out
/-- The texts of the first k. -/
def inT (z : RunP) (l : List Nat) : ByteArray := l.foldl (fun T k => txtsX T [(z.pl k).out]) .empty
theorem inT_next {z : RunP} {l : List Nat} {k a : Nat} (h : l[k]? = some a) : inT z (l.take (k + 1)) = txtsX (inT z (l.take k)) [(z.pl a).out] := fold_takeR h
theorem inT_size {z : RunP} (ho : ∀ p ∈ z.ps, p.out.size ≤ 32) (l : List Nat) : ∀ k, (inT z (l.take k)).size ≤ 200 * k := by
  intro k
  induction k with
  | zero => rw [List.take_zero]; exact Nat.le_refl _
  | succ k ih =>
    by_cases hk : k < l.length
    · rw [inT_next (List.getElem?_eq_getElem hk)]
      have h1 : (z.pl l[k]).out.size ≤ 32 := by
        unfold RunP.pl
        rw [List.getD_eq_getElem?_getD]
        cases hp : z.ps[l[k]]? with
        | none => decide
        | some p => exact ho p (List.mem_of_getElem? hp)
      generalize (z.pl l[k]).out = s at *
      have h2 : (txtsX (inT z (l.take k)) [s]).size = (inT z (l.take k)).size + ((numX s.size).size + s.size) := by
        show (inT z (l.take k) ++ (numX s.size ++ s)).size = _
        rw [size_cat, size_cat]
      have h3 := headX_len (n := (s.size : Int)) (by omega) (by omega)
      have h4 : (numX (s.size : Int)).size ≤ 21 := by
        rw [numX_cat, size_cat]
        have : (⟨#[44]⟩ : ByteArray).size = 1 := rfl
        omega
      omega
    · rw [List.take_of_length_le (by omega)]
      rw [List.take_of_length_le (by omega)] at ih
      omega
theorem txt_at {W : World} {g : Nat} {s : ByteArray} {t : TypeId} (h : W.heap[g]? = some (.cells #[.string s] t (0, 0))) : TxtsAt W (some ⟨g, 0, none⟩) [s] := fun _ => ⟨_, rfl, fun i n hi => by
  rcases i with _ | i
  · obtain rfl : s = n := by simpa using hi
    have e : (⟨g, 0, none⟩ : Addr).add 0 = ⟨g, 0, none⟩ := rfl
    rw [e, cellH h]
    rfl
  · simp at hi⟩
set_option maxHeartbeats 4000000 in
set_option maxRecDepth 100000 in
theorem rinput_is (h : RnC w X R B g c d z vs) (hm : MayP z.pn z.ts) (hl : z.ps.length = z.ts.length) (ho : ∀ p ∈ z.ps, p.out.size ≤ 32) (hV : VarsAt w) (i : Int) :
    Calls Tryz.prog 28 #[ptrV R, .int .i64 i] w fun e w' => e = .returned (.string (inputR z i)) ∧ Below w.heap.size w w' := by
  have HH := Lib.hid (rhas_is h i)
  have HA := Lib.hid h
  have HL := Lib.hid hl
  obtain ⟨r, hr⟩ : ∃ r, r = inputR z i := ⟨_, rfl⟩
  rw [← hr]
  have HR := Lib.hid hr
  clear hr
  cases hb : hasB z i with
  | false =>
    rw [hb] at HH
    have hn := hasB_no hb
    have HE := Lib.hid (show r = .empty by rw [HR.out, inputR, if_pos hn])
    clear hb hn h hm hl ho hV
    go_enter Tryz.func28, Tryz.ntmps28
    go_wp2_with (go_at_call 57; refine HH.out.mono ?_; rintro e w1 ⟨rfl, rfl⟩)
    go_ret
    exact ⟨by rw [HE.out]; rfl, Below.refl _ _⟩
  | true =>
    rw [hb] at HH
    obtain ⟨j, rfl, hj⟩ := hasB_nat hb
    obtain ⟨t, ht⟩ : ∃ t, z.ts[j]? = some t := ⟨_, List.getElem?_eq_getElem (by omega)⟩
    have HE := Lib.hid (show r = inT z t.after by
      rw [HR.out, inputR, if_neg (by omega), Int.toNat_natCast, tk_of ht]
      rfl)
    have hto := hm.right.task t (List.mem_of_getElem? ht)
    have HLT := Lib.hid (show ∀ a ∈ t.after, a < z.ps.length from fun a ha => by rw [hl]; exact hto.aft.1 a ha)
    have h20 := (hm.few.task t (List.mem_of_getElem? ht)).1
    have HSZ := Lib.hid (inT_size ho t.after)
    have HT := Lib.hid ht
    have hk0 : (0 : Int) ≤ (j : Int) := by omega
    have hkl : (j : Int) < (z.ts.length : Int) := by omega
    have hal := (Below.refl w.heap.size w).alloc (Nat.le_refl _) (.cells #[.pointer none, .int .i64 0] 88)
    have HK0 := Lib.hid (show BkI w w.heap.size .empty (w.alloc (.cells #[.pointer none, .int .i64 0] 88)) from ⟨⟨_, WrV.zero hV, fun i hi => by rw [List.mem_singleton] at hi; subst hi; exact ⟨Nat.le_refl _, by rw [World.size_alloc]; omega⟩⟩, hal⟩)
    clear hb h hm hl ho hV hto ht hal
    go_enter Tryz.func28, Tryz.ntmps28
    go_upto_region 4 with (go_at_call 57; refine HH.out.mono ?_; rintro e w1 ⟨rfl, rfl⟩)
    generalize hW1 : (w.alloc (.cells #[.pointer none, .int .i64 0] 88)) = W1 at *
    clear hW1
    have hA1 := HA.out.later HK0.out.2
    obtain ⟨_, x1, _, _⟩ := hA1.cells
    obtain ⟨A, ea, hct, hN, hcp, _⟩ := HA.out.task HT.out
    have p1 := cell_later HK0.out.2 (hct 1 _ rfl)
    have HN := Lib.hid hN
    clear hct hA1 hN
    go_upto_region 5 with fail
    clear x1 p1
    go_loopw [22] (fun i wr => ∃ k : Nat, i = .int .i64 k ∧ k ≤ t.after.length ∧ Hid (BkI w w.heap.size (inT z (t.after.take k)) wr)) (fun i _ => t.after.length - (intOf i).toNat)
    case atStart => exact ⟨0, rfl, Nat.zero_le _, HK0⟩
    case round =>
      obtain ⟨k, rfl, hk, HK⟩ := hrel
      by_cases hlt : k < t.after.length
      · obtain ⟨a, ha⟩ : ∃ a, t.after[k]? = some a := ⟨_, List.getElem?_eq_getElem hlt⟩
        obtain ⟨ad, rfl, ha0⟩ := (HN.out.later HK.out.2).at_ ha
        have hap := HLT.out a (List.mem_of_getElem? ha)
        obtain ⟨pa, hpa⟩ : ∃ pa, z.ps[a]? = some pa := ⟨_, List.getElem?_eq_getElem hap⟩
        have hA2 := HA.out.later HK.out.2
        obtain ⟨_, _, x2, _⟩ := hA2.cells
        obtain ⟨Y, e, hv, _, _, hc⟩ := hA2.step hpa
        have p6 := hc 6 _ rfl
        have hnx := inT_next (z := z) ha
        rw [pl_of hpa] at hnx
        have hsz := HSZ.out (k + 1)
        rw [hnx] at hsz
        have HNX := Lib.hid hnx
        have hj0 : (0 : Int) ≤ (k : Int) := by omega
        have hjl : (k : Int) < (t.after.length : Int) := by omega
        have ha00 : (0 : Int) ≤ (a : Int) := by omega
        have hapl : (a : Int) < (z.ps.length : Int) := by omega
        have hbl := (Below.refl wr.heap.size wr).alloc (Nat.le_refl _) (.cells #[.string pa.out] 9)
        have HCT := Lib.hid (wb_text (HK.out.1.below hbl) (below_step HK.out.2 hbl) (some ⟨wr.heap.size, 0, none⟩) [pa.out] 1 (txt_at (made_at _ _)) (fun ad e => by obtain rfl := Option.some.inj e; exact Nat.le_refl _) (by simp) (by omega))
        clear ha hpa hA2 hv hc hnx hsz hbl HK
        go_wp2_with fail
        refine HCT.out.mono ?_
        rintro e w3 ⟨rfl, h3, hb3, _⟩
        have HK3 := Lib.hid (show BkI w w.heap.size (inT z (t.after.take (k + 1))) w3 from by rw [HNX.out]; exact ⟨h3, hb3⟩)
        clear h3 hb3 HCT x2 p6 ha0
        go_wp2_with fail
        go_roundw
        case rel => exact ⟨k + 1, by go_num, by omega, HK3⟩
        case measure => simp [intOf]; omega
      · obtain rfl : k = t.after.length := by omega
        have hlk : ¬ (t.after.length : Int) < (t.after.length : Int) := by omega
        have hkk := HK.out
        rw [List.take_length] at hkk
        have HK3 := Lib.hid hkk
        clear hkk
        go_wp2_with fail
        refine HK3.out.1.str.mono ?_
        rintro e w3 ⟨rfl, hb3⟩
        have HB3 := Lib.hid (below_step HK3.out.2 hb3)
        clear hb3
        go_wp2_with fail
        go_ret
        exact ⟨by rw [HE.out]; rfl, HB3.out⟩
end
end Go.Proofs.YtfjaibaidpbppaaGreatDoor

namespace Go.Proofs.YtfjaibaidpbppaaGreatDoor
open Go.RowKit

set_option maxHeartbeats 4000000 in
set_option maxRecDepth 100000 in
theorem lwrite_v {W : World} {O : List Nat} {P : Nat} {T : ByteArray} (t : TrP) (hw : WrV W O P T) (hin : t.In) (hT : T.size ≤ 100000000) :
    Calls Tryz.prog 72 #[.pointer (some ⟨P, 0, none⟩), tryV t] W (WroteV W O P (intsX T (tryL t))) := by
  have hsz : (intsX T (tryL t)).size ≤ 140737488355328 := by rw [sixX_grows]; have := sixX_size hin; omega
  have b0 := (Below.refl W.heap.size W).alloc (Nat.le_refl _) (.cells (tryA t) 73)
  have m0 := made_at W (.cells (tryA t) 73)
  have HW := Lib.hid hw
  have HLOW := Lib.hid (fun i (hi : i ∈ O) => hw.wr.low.2 i hi)
  have HIN := Lib.hid (tryL_in hin)
  have HSZ := Lib.hid hsz
  clear hw hin hT hsz
  go_enter Tryz.func72, Tryz.ntmps72
  go_upto_region 1 with fail
  generalize hW0 : W.alloc _ = W0 at *
  clear hW0
  obtain ⟨⟨x0, x1, x2, x3, x4, x5⟩, _⟩ := cells6 m0
  have B0 := Lib.hid b0
  clear b0 m0
  go_wp2_with fail
  refine (lnumbers_is t).mono ?_
  rintro e w1 ⟨rfl, hb1⟩
  have B1 := Lib.hid (below_step B0.out hb1)
  clear hb1 x0 x1 x2 x3 x4 x5
  have N2 := Lib.hid (made_at w1 (.cells (tryA t) 140))
  have B2 := Lib.hid (below_step B1.out ((Below.refl _ w1).alloc (Nat.le_refl _) (.cells (tryA t) 140)))
  have HG := Lib.hid B1.out.size
  go_upto_region 2 with fail
  generalize hW2 : w1.alloc _ = W2 at *
  clear hW2
  generalize w1.heap.size = g at *
  clear B1
  go_wp2_with fail
  refine (wint_is (HW.out.below B2.out) _ (tryL t) 6 (ints_six N2.out) (fun ad e hm => by obtain rfl := Option.some.inj e; have h1 := HLOW.out _ hm; have := HG.out; have h2 : g < W.heap.size := h1; omega) HIN.out (by simp [tryL]) HSZ.out).mono ?_
  rintro e w6 ⟨rfl, O6, hV6, hN6, hO6⟩
  have HR := Lib.hid (show WroteV W O P (intsX T (tryL t)) (.returned (.tuple #[])) w6 from ⟨rfl, O6, hV6, fun i hi => by
    rcases hN6 i hi with h1 | h1
    · exact .inl h1
    · exact .inr (Nat.le_trans B2.out.size h1), (OnlyO.of_below (O := O) B2.out).trans hO6 New.refl⟩)
  clear hV6 hN6 hO6
  go_wp2_with fail
  exact bodyPost_ret (v := .tuple #[]) (by simp [results, Tryz.results72, go_sem]) rfl HR.out
/-- The Writer at P has written T (n bytes at most), and turned nothing but O0 since w0. -/
structure Wk (w0 : World) (O0 : List Nat) (P : Nat) (T : ByteArray) (n : Nat) (W : World) : Prop where
  ex : ∃ O, WrV W O P T ∧ New O0 O w0 ∧ OnlyO O0 w0 W
  sz : T.size ≤ n
/-- What a call of the Writer leaves. -/
def WkOut (w0 : World) (O0 : List Nat) (P : Nat) (T : ByteArray) (n : Nat) (e : Ending) (w' : World) : Prop := e = .returned (.tuple #[]) ∧ Wk w0 O0 P T n w'
section
variable {w0 W V : World} {O0 : List Nat} {P n : Nat} {T : ByteArray}
theorem Wk.later (h : Wk w0 O0 P T n W) (hb : Below W.heap.size W V) : Wk w0 O0 P T n V := by
  obtain ⟨O, h1, h2, h3⟩ := h.ex
  exact ⟨⟨O, h1.below hb, h2, h3.trans (OnlyO.of_below (O := O0) hb) New.refl⟩, h.sz⟩
theorem Wk.wrote {O : List Nat} {T' : ByteArray} {n' : Nat} (h2 : New O0 O w0) (h3 : OnlyO O0 w0 V) (hs : T'.size ≤ n') {e : Ending} {w' : World} (hw : WroteV V O P T' e w') : WkOut w0 O0 P T' n' e w' := by
  obtain ⟨rfl, O', a1, a2, a3⟩ := hw
  exact ⟨rfl, ⟨O', a1, h2.trans a2 h3.size, h3.trans a3 h2⟩, hs⟩
theorem numX_size (k : Int) (h0 : -9223372036854775808 ≤ k) (h1 : k ≤ 9223372036854775807) : (numX k).size ≤ 21 := by
  have h3 := headX_len h0 h1
  rw [numX_cat, size_cat]
  have : (⟨#[44]⟩ : ByteArray).size = 1 := rfl
  omega
theorem txt_size (T s : ByteArray) (hs : s.size ≤ 1000000) : (txtsX T [s]).size ≤ T.size + 21 + s.size := by
  have h2 : (txtsX T [s]).size = T.size + ((numX s.size).size + s.size) := by
    show (T ++ (numX s.size ++ s)).size = _
    rw [size_cat, size_cat]
  have h4 := numX_size (s.size : Int) (by omega) (by omega)
  omega
theorem Wk.text (h : Wk w0 O0 P T n W) (s : ByteArray) (hs : s.size ≤ 1000000) (hn : n ≤ 100000000) :
    Calls Tryz.prog 58 #[.pointer (some ⟨P, 0, none⟩), .slice (some ⟨W.heap.size, 0, none⟩) 1 1] (W.alloc (.cells #[.string s] 9)) (WkOut w0 O0 P (txtsX T [s]) (n + 21 + s.size)) := by
  obtain ⟨O, h1, h2, h3⟩ := h.ex
  have hb := (Below.refl W.heap.size W).alloc (Nat.le_refl _) (.cells #[.string s] 9)
  have hz := txt_size T s hs
  have hT := h.sz
  exact (wtext_is (h1.below hb) (some ⟨W.heap.size, 0, none⟩) [s] 1 (txt_at (made_at _ _)) (fun ad e hm => by obtain rfl := Option.some.inj e; have h5 := h1.wr.low.2 _ hm; have h6 : W.heap.size < W.heap.size := h5; omega) (by simp) (by omega)).mono fun _ _ g => Wk.wrote h2 (h3.trans (OnlyO.of_below (O := O0) hb) New.refl) (by omega) g
theorem Wk.ints (L : List Int) (h : Wk w0 O0 P T n W) (hr : ∀ k ∈ L, -9223372036854775808 ≤ k ∧ k ≤ 9223372036854775807) (hl : L.length ≤ 1000) (hn : n ≤ 100000000) :
    Calls Tryz.prog 74 #[.pointer (some ⟨P, 0, none⟩), .slice (some ⟨W.heap.size, 0, none⟩) L.length L.length] (W.alloc (.cells (L.map (Value.int .i64)).toArray 3)) (WkOut w0 O0 P (intsX T L) (n + 21 * L.length)) := by
  obtain ⟨O, h1, h2, h3⟩ := h.ex
  have hb := (Below.refl W.heap.size W).alloc (Nat.le_refl _) (.cells (L.map (Value.int .i64)).toArray 3)
  have hz := intsX_size L T hr
  have hT := h.sz
  exact (wint_is (h1.below hb) (some ⟨W.heap.size, 0, none⟩) L L.length (ints_made W L) (fun ad e hm => by obtain rfl := Option.some.inj e; have h5 := h1.wr.low.2 _ hm; have h6 : W.heap.size < W.heap.size := h5; omega) hr (by omega) (by omega)).mono fun _ _ g => Wk.wrote h2 (h3.trans (OnlyO.of_below (O := O0) hb) New.refl) (by omega) g
theorem Wk.off {X : List Nat} (h2 : ∀ i ∈ X, i ∉ O0 ∧ i < w0.heap.size) {O : List Nat} (hN : New O0 O w0) {i : Nat} (hi : i ∈ X) : i ∉ O := fun hm => by
  rcases hN i hm with h | h
  · exact (h2 i hi).1 h
  · have := (h2 i hi).2
    omega
theorem nats_ints {A : Option Addr} {l : List Nat} (h : NatsAt W A l) : IntsAt W A (l.map Int.ofNat) := fun hn => by
  obtain ⟨ad, e, hc⟩ := h (by rw [List.length_map] at hn; exact hn)
  refine ⟨ad, e, fun i n hi => ?_⟩
  rw [List.getElem?_map] at hi
  cases hx : l[i]? with
  | none => rw [hx] at hi; cases hi
  | some x =>
    rw [hx] at hi
    injection hi with hi
    subst hi
    exact hc i x hx
theorem Wk.after {X : List Nat} {A : Option Addr} {c : Nat} {l : List Nat} (h : Wk w0 O0 P T n W) (hX : ∀ i ∈ X, i ∉ O0 ∧ i < w0.heap.size) (hA : NatsAt W A l) (hAX : 0 < l.length → ∀ ad, A = some ad → ad.block ∈ X) (hl : l.length ≤ 1000) (hr : ∀ a ∈ l, a ≤ 1000000) (hn : n ≤ 100000000) :
    Calls Tryz.prog 74 #[.pointer (some ⟨P, 0, none⟩), .slice A l.length c] W (WkOut w0 O0 P (intsX T (l.map Int.ofNat)) (n + 21 * l.length)) := by
  obtain ⟨O, h1, h2, h3⟩ := h.ex
  have hll : (l.map Int.ofNat).length = l.length := List.length_map ..
  have hrr : ∀ k ∈ l.map Int.ofNat, -9223372036854775808 ≤ k ∧ k ≤ 9223372036854775807 := fun k hk => by
    obtain ⟨a, ha, rfl⟩ := List.mem_map.1 hk
    have := hr a ha
    show -9223372036854775808 ≤ (a : Int) ∧ (a : Int) ≤ 9223372036854775807
    omega
  have hz := intsX_size (l.map Int.ofNat) T hrr
  rw [hll] at hz
  have hT := h.sz
  have hc := wint_any h1 A (l.map Int.ofNat) c (nats_ints hA) (fun hl2 ad e => Wk.off hX h2 (hAX (by rw [hll] at hl2; exact hl2) ad e)) hrr (by rw [hll]; omega) (by omega)
  rw [hll] at hc
  exact hc.mono fun _ _ g => Wk.wrote h2 h3 (by omega) g
theorem Wk.label (h : Wk w0 O0 P T n W) (a b : Int) (ha0 : -9223372036854775808 ≤ a) (ha1 : a ≤ 9223372036854775807) (hb0 : 0 ≤ b) (hb1 : b ≤ 65535) (hn : n ≤ 100000000) :
    Calls Tryz.prog 90 #[.pointer (some ⟨P, 0, none⟩), .agg #[.int .i64 a, .int .u16 b]] W (WkOut w0 O0 P (intsX T [a, b]) (n + 42)) := by
  obtain ⟨O, h1, h2, h3⟩ := h.ex
  have hz := intsX_size [a, b] T (fun z hz => by
    simp only [List.mem_cons, List.not_mem_nil, or_false] at hz
    rcases hz with rfl | rfl <;> omega)
  have hT := h.sz
  have hz2 : (intsX T [a, b]).size ≤ T.size + 42 := hz
  exact (wlabel_is h1 a b ha0 ha1 hb0 hb1 (by omega)).mono fun _ _ g => Wk.wrote h2 h3 (by omega) g
theorem Wk.try_ (h : Wk w0 O0 P T n W) (t : TrP) (hin : t.In) (hn : n ≤ 100000000) :
    Calls Tryz.prog 72 #[.pointer (some ⟨P, 0, none⟩), tryV t] W (WkOut w0 O0 P (intsX T (tryL t)) (n + 126)) := by
  obtain ⟨O, h1, h2, h3⟩ := h.ex
  have hT := h.sz
  have hz := sixX_size hin
  exact (lwrite_v t h1 hin (by omega)).mono fun _ _ g => Wk.wrote h2 h3 (by rw [sixX_grows]; omega) g
theorem Wk.votes {X : List Nat} {A : Option Addr} {c : Nat} {yes : List Int} (no : Bool) (h : Wk w0 O0 P T n W) (hX : ∀ i ∈ X, i ∉ O0 ∧ i < w0.heap.size) (hA : IntsC W A c yes) (hAX : 0 < yes.length → ∀ ad, A = some ad → ad.block ∈ X) (hy : RisL yes) (hn : n ≤ 10000000) :
    Calls Tryz.prog 73 #[.pointer (some ⟨P, 0, none⟩), .agg #[.slice A yes.length c, .bool no]] W (WkOut w0 O0 P (intsX T (votL yes no)) (n + 300)) := by
  obtain ⟨O, h1, h2, h3⟩ := h.ex
  have hT := h.sz
  have hr : ∀ z ∈ yes, -9223372036854775808 ≤ z ∧ z ≤ 9223372036854775807 := fun z hz => by have := hy.2 z hz; omega
  have hlen := hy.len
  have hz := intsX_size (votL yes no) T (votL_int hr (by omega))
  have hvl : (votL yes no).length = yes.length + 2 := by simp [votL]
  exact (gwrite_v no h1 hA.at_ (fun hl ad e => Wk.off hX h2 (hAX hl ad e)) hr (by omega) (by omega)).mono fun _ _ g => Wk.wrote h2 h3 (by omega) g
/-- The run lies there all along. -/
theorem Wk.run {X : List Nat} {R B g c d : Nat} {z : RunP} {vs : List Value} (h : Wk w0 O0 P T n W) (hR : RnC w0 X R B g c d z vs) (hd : R ∉ O0 ∧ B ∉ O0 ∧ ∀ i ∈ X, i ∉ O0) : RnC W X R B g c d z vs := by
  obtain ⟨O, h1, h2, h3⟩ := h.ex
  refine hR.same fun i hi => h3.block i ?_ (fun hm => ?_)
  · rcases hi with rfl | rfl | hi
    · exact hR.rlow
    · exact hR.steps.low
    · exact hR.xlow i hi
  · rcases hi with rfl | rfl | hi
    · exact hd.1 hm
    · exact hd.2.1 hm
    · exact hd.2.2 i hi hm
end
end Go.Proofs.YtfjaibaidpbppaaGreatDoor

namespace Go.Proofs.YtfjaibaidpbppaaGreatDoor
open Go.RowKit

section
variable {w0 W V : World} {O0 : List Nat} {P n : Nat} {T : ByteArray}
/-- From here on. -/
theorem Wk.base (h : Wk w0 O0 P T n W) (hb : Below W.heap.size W V) : ∃ O, (∀ i ∈ O, i < W.heap.size) ∧ New O0 O w0 ∧ Wk V O P T n V ∧ ∀ T' n' w', Wk V O P T' n' w' → Wk w0 O0 P T' n' w' := by
  obtain ⟨O, h1, h2, h3⟩ := h.ex
  have h4 := h3.trans (OnlyO.of_below (O := O0) hb) New.refl
  refine ⟨O, h1.wr.low.2, h2, ⟨⟨O, h1.below hb, New.refl, OnlyO.of_below (Below.refl _ _)⟩, h.sz⟩, fun T' n' w' g => ?_⟩
  obtain ⟨O', g1, g2, g3⟩ := g.ex
  exact ⟨⟨O', g1, h2.trans g2 h4.size, h4.trans g3 h2⟩, g.sz⟩
theorem Wk.keep {O : List Nat} (h : Wk V O P T n W) {i : Nat} {o : Obj} (hi : i ∉ O) (hv : V.heap[i]? = some o) : W.heap[i]? = some o := by
  obtain ⟨O', _, _, h3⟩ := h.ex
  rw [h3.block i (Array.getElem?_eq_some_iff.1 hv).1 hi]
  exact hv
theorem Wk.more {n' : Nat} (h : Wk w0 O0 P T n W) (hn : n ≤ n') : Wk w0 O0 P T n' W := ⟨h.ex, Nat.le_trans h.sz hn⟩
theorem Wk.xsame {X : List Nat} (h : Wk w0 O0 P T n W) (hX : ∀ i ∈ X, i ∉ O0 ∧ i < w0.heap.size) : ∀ i ∈ X, W.heap[i]? = w0.heap[i]? := fun i hi => by
  obtain ⟨O, _, _, h3⟩ := h.ex
  exact h3.block i (hX i hi).2 (hX i hi).1
theorem Wk.grows (h : Wk w0 O0 P T n W) : w0.heap.size ≤ W.heap.size := by
  obtain ⟨O, _, _, h3⟩ := h.ex
  exact h3.size
theorem off_more {X O : List Nat} (hX : ∀ i ∈ X, i ∉ O0 ∧ i < w0.heap.size) (hN : New O0 O w0) (hs : w0.heap.size ≤ V.heap.size) : ∀ i ∈ X, i ∉ O ∧ i < V.heap.size := fun i hi => ⟨Wk.off hX hN hi, Nat.lt_of_lt_of_le (hX i hi).2 hs⟩
theorem foldl_takeW {ts : List TkP} {k : Nat} {t : TkP} {T : ByteArray} (h : ts[k]? = some t) : (ts.take (k + 1)).foldl wTask T = wTask ((ts.take k).foldl wTask T) t := by
  rw [List.take_add_one, h, List.foldl_append]
  rfl
theorem foldl_takeP {ps : List PlP} {k : Nat} {p : PlP} {T : ByteArray} (h : ps[k]? = some p) : (ps.take (k + 1)).foldl wPlace T = wPlace ((ps.take k).foldl wPlace T) p := by
  rw [List.take_add_one, h, List.foldl_append]
  rfl
theorem wTask_two (T : ByteArray) (t : TkP) : intsX (intsX (intsX (intsX (txtsX T [t.name]) [(t.after.length : Int)]) (t.after.map Int.ofNat)) [t.retry, t.time, t.need]) [t.lv, t.st] = wTask T t := by
  unfold wTask
  rw [intsX_app]
  rfl
end
section
variable {w0 W : World} {O0 : List Nat} {P n : Nat} {T : ByteArray} {X : List Nat} {R B g c d : Nat} {z : RunP} {vs : List Value}
set_option maxHeartbeats 4000000 in
set_option maxRecDepth 100000 in
theorem rwpipe_is (h : Wk w0 O0 P T n W) (hR : RnC w0 X R B g c d z vs) (hd : R ∉ O0 ∧ B ∉ O0 ∧ ∀ i ∈ X, i ∉ O0) (hm : MayP z.pn z.ts) (hn : n ≤ 2000000) :
    Calls Tryz.prog 71 #[ptrV P, .agg #[.string z.pn, .slice (some ⟨g, 0, none⟩) z.ts.length c]] W (WkOut w0 O0 P (z.ts.foldl wTask (intsX (txtsX T [z.pn]) [(z.ts.length : Int)])) (n + 100 + 700 * z.ts.length)) := by
  have h8 : z.ts.length ≤ 8 := hm.right.few.2
  have hpn : z.pn.size ≤ 8 := hm.right.name.2.1
  have hb0 := (Below.refl W.heap.size W).alloc (Nat.le_refl _) (.cells #[.string z.pn, .slice (some ⟨g, 0, none⟩) z.ts.length c] 24)
  obtain ⟨O, hO, hN, hK, hback⟩ := h.base hb0
  have HK0 := Lib.hid hK
  have HBK := Lib.hid hback
  have HX := Lib.hid (made_at W (.cells #[.string z.pn, .slice (some ⟨g, 0, none⟩) z.ts.length c] 24))
  have HPO := Lib.hid (show W.heap.size ∉ O from fun hm => by have := hO _ hm; omega)
  have HR := Lib.hid hR
  have HD := Lib.hid hd
  have hXO : ∀ i ∈ X, i ∉ O0 ∧ i < w0.heap.size := fun i hi => ⟨hd.2.2 i hi, hR.xlow i hi⟩
  have HXO := Lib.hid hXO
  have HX1 := Lib.hid (off_more hXO hN (show w0.heap.size ≤ (W.alloc (.cells #[.string z.pn, .slice (some ⟨g, 0, none⟩) z.ts.length c] 24)).heap.size from Nat.le_trans h.grows hb0.size))
  have HTK := Lib.hid hm.right.task
  have H20 := Lib.hid (fun t (ht : t ∈ z.ts) => hm.few.task t ht)
  clear h hR hd hm hb0 hO hN hK hback hXO
  go_enter Tryz.func71, Tryz.ntmps71
  go_upto_region 1 with fail
  generalize hW0 : (W.alloc (.cells #[.string z.pn, .slice (some ⟨g, 0, none⟩) z.ts.length c] 24)) = W0 at *
  clear hW0
  generalize W.heap.size = Q at *
  have x0 := cellH HX.out 0
  simp at x0
  go_wp2_with fail
  refine (HK0.out.text z.pn (by omega) (by omega)).mono ?_
  rintro e w1 ⟨rfl, hk1⟩
  have HK1 := Lib.hid hk1
  have x1 := cellH (hk1.keep HPO.out HX.out) 1
  simp at x1
  clear hk1 x0 HK0
  go_wp2_with fail
  refine (HK1.out.ints [(z.ts.length : Int)] (fun k hk => by rw [List.mem_singleton.1 hk]; omega) (by simp) (by omega)).mono ?_
  rintro e w2 ⟨rfl, hk2⟩
  have x1' := cellH (hk2.keep HPO.out HX.out) 1
  simp at x1'
  have HK2 := Lib.hid (hk2.more (n' := n + 100) (by simp; omega))
  clear hk2 x1 HK1
  go_wp2_with fail
  clear x1'
  go_loopw [20] (fun i wr => ∃ k : Nat, i = .int .i64 k ∧ k ≤ z.ts.length ∧ Hid (Wk W0 O P ((z.ts.take k).foldl wTask (intsX (txtsX T [z.pn]) [(z.ts.length : Int)])) (n + 100 + 700 * k) wr)) (fun i _ => z.ts.length - (intOf i).toNat)
  case atStart => exact ⟨0, rfl, Nat.zero_le _, Lib.hid HK2.out⟩
  case round =>
    obtain ⟨k, rfl, hk, HK⟩ := hrel
    clear HK2
    by_cases hlt : k < z.ts.length
    · obtain ⟨t, ht⟩ : ∃ t, z.ts[k]? = some t := ⟨_, List.getElem?_eq_getElem hlt⟩
      have hxs := (HBK.out _ _ _ HK.out).xsame HXO.out
      obtain ⟨A, ea, hct0, hNA, hcp, hAX⟩ := HR.out.task ht
      have hct : ∀ (j : Nat) u, (tkC t (.slice A t.after.length ea))[j]? = some u → wr.cell? ⟨g, k * 7 + j, none⟩ = some u := fun j u hu => by
        rw [World.cell?_of_block (w := w0) (a := ⟨g, k * 7 + j, none⟩) (hxs g HR.out.gx)]
        exact hct0 j u hu
      have HNA := Lib.hid (show ∀ V' : World, (∀ i ∈ X, V'.heap[i]? = w0.heap[i]?) → NatsAt V' A t.after from fun V' hv => hNA.same (fun hl ad e => hv _ (hAX hl ad e)))
      have p0 : wr.cell? ⟨g, k * 7, none⟩ = some (.string t.name) := hct 0 _ rfl
      have p1 := hct 1 _ rfl
      have p2 := hct 2 _ rfl
      have p3 := hct 3 _ rfl
      have p4 := hct 4 _ rfl
      have p5 := hct 5 _ rfl
      have p6 := hct 6 _ rfl
      have hto := HTK.out t (List.mem_of_getElem? ht)
      have h20 := H20.out t (List.mem_of_getElem? ht)
      have HT := Lib.hid ht
      have HAX := Lib.hid hAX
      have HAL := Lib.hid (show ∀ a ∈ t.after, a ≤ 1000000 from fun a ha => by have h1 := hto.aft.1 a ha; have h2 : a < z.ts.length := h1; omega)
      have HTO := Lib.hid hto
      have HFT := Lib.hid (foldl_takeW (T := intsX (txtsX T [z.pn]) [(z.ts.length : Int)]) ht)
      obtain ⟨U, hU⟩ : ∃ U, U = (z.ts.take k).foldl wTask (intsX (txtsX T [z.pn]) [(z.ts.length : Int)]) := ⟨_, rfl⟩
      rw [← hU] at HFT HK
      have hk0 : (0 : Int) ≤ (k : Int) := by omega
      have hkl : (k : Int) < (z.ts.length : Int) := by omega
      have hns : t.name.size ≤ 8 := hto.name.2.1
      have hal := h20.1
      clear hU hct hct0 ht hto h20 hAX hcp hxs hNA
      go_upto_region 6 with fail
      have hbc := (Below.refl wr.heap.size wr).alloc (Nat.le_refl _) (.cells (tkA t A ea) 65)
      obtain ⟨O2, hO2, hN2, hK2, hback2⟩ := HK.out.base hbc
      have HKA := Lib.hid hK2
      have HB2 := Lib.hid (show ∀ T' n' w', Wk (wr.alloc (.cells (tkA t A ea) 65)) O2 P T' n' w' → Wk W0 O P T' n' w' from hback2)
      have HMC := Lib.hid (made_at wr (.cells (tkA t A ea) 65))
      have HX2 := Lib.hid (off_more HX1.out hN2 (Nat.le_trans HK.out.grows hbc.size))
      have HCO := Lib.hid (show wr.heap.size ∉ O2 from fun hm => by have := hO2 _ hm; omega)
      clear p0 p1 p2 p3 p4 p5 p6 HK hbc hO2 hN2 hK2 hback2
      generalize hW2 : (wr.alloc (.cells (tkA t A ea) 65)) = W2 at *
      clear hW2
      generalize wr.heap.size = C at *
      have y0 := cellH HMC.out 0
      simp at y0
      go_wp2_with fail
      refine (HKA.out.text t.name (by omega) (by omega)).mono ?_
      rintro e w3 ⟨rfl, hk3⟩
      have y1 := cellH (hk3.keep HCO.out HMC.out) 1
      simp at y1
      have HKB := Lib.hid hk3
      clear hk3 y0 HKA
      go_wp2_with fail
      refine (HKB.out.ints [(t.after.length : Int)] (fun k hk => by rw [List.mem_singleton.1 hk]; omega) (by simp) (by omega)).mono ?_
      rintro e w4 ⟨rfl, hk4⟩
      have y2 := cellH (hk4.keep HCO.out HMC.out) 1
      simp at y2
      have HN4 := Lib.hid (HNA.out w4 ((HBK.out _ _ _ (HB2.out _ _ _ hk4)).xsame HXO.out))
      have HKC := Lib.hid hk4
      clear hk4 y1 HKB
      go_wp2_with fail
      refine (HKC.out.after HX2.out HN4.out HAX.out (by omega) HAL.out (by simp; omega)).mono ?_
      rintro e w5 ⟨rfl, hk5⟩
      have hm5 := hk5.keep HCO.out HMC.out
      have y2' := cellH hm5 2
      have y3 := cellH hm5 3
      have y4 := cellH hm5 4
      simp at y2' y3 y4
      have HKD := Lib.hid hk5
      clear hk5 y2 HKC HN4 hm5
      have hto := HTO.out
      go_wp2_with fail
      refine (HKD.out.ints [t.retry, t.time, t.need] (fun k hk => by
        have h1 := hto.retry
        have h2 := hto.time
        have h3 := hto.need
        simp only [List.mem_cons, List.not_mem_nil, or_false] at hk
        rcases hk with rfl | rfl | rfl <;> omega) (by simp) (by simp; omega)).mono ?_
      rintro e w6 ⟨rfl, hk6⟩
      have hm6 := hk6.keep HCO.out HMC.out
      have y5 := cellH hm6 5
      have y6 := cellH hm6 6
      simp at y5 y6
      have HKE := Lib.hid hk6
      clear hk6 y2' y3 y4 HKD hm6 hto
      have hlb := HTO.out.lab
      go_wp2_with fail
      refine (HKE.out.label t.lv t.st (by omega) (by omega) hlb.2.2.1 hlb.2.2.2 (by simp; omega)).mono ?_
      rintro e w7 ⟨rfl, hk7⟩
      rw [wTask_two] at hk7
      have HK7 := Lib.hid (show Wk W0 O P ((z.ts.take (k + 1)).foldl wTask (intsX (txtsX T [z.pn]) [(z.ts.length : Int)])) (n + 100 + 700 * (k + 1)) w7 from by rw [HFT.out]; exact (HB2.out _ _ _ hk7).more (by simp; omega))
      clear hk7 y5 y6 HKE hlb
      go_wp2_with fail
      go_roundw
      case rel => exact ⟨k + 1, by go_num, by omega, HK7⟩
      case measure => simp [intOf]; omega
    · obtain rfl : k = z.ts.length := by omega
      have hlk : ¬ (z.ts.length : Int) < (z.ts.length : Int) := by omega
      have hkk := HK.out
      rw [List.take_length] at hkk
      have HF := Lib.hid (show WkOut w0 O0 P (z.ts.foldl wTask (intsX (txtsX T [z.pn]) [(z.ts.length : Int)])) (n + 100 + 700 * z.ts.length) (.returned (.tuple #[])) wr from ⟨rfl, HBK.out _ _ _ hkk⟩)
      clear hkk
      go_wp2_with fail
      exact bodyPost_ret (v := .tuple #[]) (by simp [results, Tryz.results71, go_sem]) rfl HF.out
end
end Go.Proofs.YtfjaibaidpbppaaGreatDoor

namespace Go.Proofs.YtfjaibaidpbppaaGreatDoor
open Go.RowKit

section
variable {W : World} {O : List Nat} {P : Nat} {T : ByteArray} {X : List Nat} {R B g c d : Nat} {z : RunP} {vs : List Value}
theorem WkOut.wrote {n : Nat} {T' : ByteArray} {e : Ending} {w' : World} (h : WkOut W O P T' n e w') : WroteV W O P T' e w' := by
  obtain ⟨rfl, ⟨O', h1, h2, h3⟩, _⟩ := h
  exact ⟨rfl, O', h1, h2, h3⟩
theorem TrIn.In {t : TrP} (h : TrIn 1000000 1000 t) : t.In := by
  have h1 := h.st
  have h2 := h.sn
  have h3 := h.ms
  have h4 := h.wk
  have h5 := h.ls
  have h6 := h.un
  constructor <;> omega
set_option maxHeartbeats 4000000 in
set_option maxRecDepth 100000 in
theorem rwrite_is (hw : WrV W O P T) (hR : RnC W X R B g c d z vs) (hd : R ∉ O ∧ B ∉ O ∧ ∀ i ∈ X, i ∉ O) (hz : RunOf z) (hT : T.size ≤ 1000000) :
    Calls Tryz.prog 45 #[ptrV R, ptrV P] W (WroteV W O P (wRun T z)) := by
  have hm := hz.may
  have hl := hz.len
  have h8 : z.ts.length ≤ 8 := hm.right.few.2
  have h8p : z.ps.length ≤ 8 := by omega
  obtain ⟨x0, x1, _, _⟩ := hR.cells
  have hK : Wk W O P T T.size W := ⟨⟨O, hw, New.refl, OnlyO.of_below (Below.refl _ _)⟩, Nat.le_refl _⟩
  have HWP := Lib.hid (rwpipe_is hK hR hd hm (by omega))
  have HR := Lib.hid hR
  have HD := Lib.hid hd
  have hXO : ∀ i ∈ X, i ∉ O ∧ i < W.heap.size := fun i hi => ⟨hd.2.2 i hi, hR.xlow i hi⟩
  have HXO := Lib.hid hXO
  have HTR := Lib.hid (fun p (hp : p ∈ z.ps) => (hz.tr p hp).In)
  have HOT := Lib.hid hz.out
  have HRS := Lib.hid hz.ris
  obtain ⟨T1, hT1⟩ : ∃ T1, T1 = z.ts.foldl wTask (intsX (txtsX T [z.pn]) [(z.ts.length : Int)]) := ⟨_, rfl⟩
  rw [← hT1] at HWP
  have HWR := Lib.hid (show wRun T z = intsX (z.ps.foldl wPlace T1) [bitI z.over] by rw [hT1]; rfl)
  obtain ⟨n1, hn1⟩ : ∃ n1, n1 = T.size + 100 + 700 * z.ts.length := ⟨_, rfl⟩
  rw [← hn1] at HWP
  have hn1' : n1 ≤ 1010000 := by omega
  clear hw hR hd hz hm hl hK hXO hT1 hn1
  go_enter Tryz.func45, Tryz.ntmps45
  go_wp2_with fail
  refine HWP.out.mono ?_
  rintro e w1 ⟨rfl, hk1⟩
  have HK1 := Lib.hid hk1
  have hR1 := hk1.run HR.out HD.out
  obtain ⟨_, _, x2, _⟩ := hR1.cells
  clear hk1 hR1 x0 x1 HWP
  go_wp2_with fail
  clear x2
  go_loopw [20] (fun i wr => ∃ k : Nat, i = .int .i64 k ∧ k ≤ z.ps.length ∧ Hid (Wk W O P ((z.ps.take k).foldl wPlace T1) (n1 + 1000 * k) wr)) (fun i _ => z.ps.length - (intOf i).toNat)
  case atStart => exact ⟨0, rfl, Nat.zero_le _, HK1⟩
  case round =>
    obtain ⟨k, rfl, hk, HK⟩ := hrel
    clear HK1
    by_cases hlt : k < z.ps.length
    · obtain ⟨p, hp⟩ : ∃ p, z.ps[k]? = some p := ⟨_, List.getElem?_eq_getElem hlt⟩
      have hRr := HK.out.run HR.out HD.out
      obtain ⟨Y, e, hv, hI, hYX, hc⟩ := HR.out.step hp
      have hc2 : ∀ (j : Nat) u, (stC p (.slice Y p.yes.length e))[j]? = some u → wr.cell? ⟨B, k * 9 + j, none⟩ = some u := fun j u hu => hRr.steps.cell hp hv hu
      have HI := Lib.hid (show ∀ V' : World, (∀ i ∈ X, V'.heap[i]? = W.heap[i]?) → IntsC V' Y e p.yes from fun V' hv' => hI.sameX (fun hl ad he => hv' _ (hYX hl ad he)))
      have HYX := Lib.hid hYX
      have p0 : wr.cell? ⟨B, k * 9, none⟩ = some (.int .i64 p.tr.st) := hc2 0 _ rfl
      have p1 := hc2 1 _ rfl
      have p2 := hc2 2 _ rfl
      have p3 := hc2 3 _ rfl
      have p4 := hc2 4 _ rfl
      have p5 := hc2 5 _ rfl
      have p6 := hc2 6 _ rfl
      have p7 := hc2 7 _ rfl
      have p8 := hc2 8 _ rfl
      have HIN := Lib.hid (HTR.out p (List.mem_of_getElem? hp))
      have hos := HOT.out p (List.mem_of_getElem? hp)
      have HRI := Lib.hid (HRS.out p (List.mem_of_getElem? hp))
      have HFT := Lib.hid (foldl_takeP (T := T1) hp)
      obtain ⟨U, hU⟩ : ∃ U, U = (z.ps.take k).foldl wPlace T1 := ⟨_, rfl⟩
      rw [← hU] at HFT HK
      have hk0 : (0 : Int) ≤ (k : Int) := by omega
      have hkl : (k : Int) < (z.ps.length : Int) := by omega
      clear hU hp hRr hv hI hYX hc hc2
      go_upto_region 5 with fail
      have hbc := (Below.refl wr.heap.size wr).alloc (Nat.le_refl _) (.cells #[.int .i64 p.tr.st, .int .i64 p.tr.sn, .int .i64 p.tr.ms, .int .i64 p.tr.wk, .int .i64 p.tr.ls, .int .i64 p.tr.un, .string p.out, .slice Y p.yes.length e, .bool p.no] 77)
      obtain ⟨O2, hO2, hN2, hK2, hback2⟩ := HK.out.base hbc
      have HKA := Lib.hid hK2
      have HB2 := Lib.hid hback2
      have HMC := Lib.hid (made_at wr (.cells #[.int .i64 p.tr.st, .int .i64 p.tr.sn, .int .i64 p.tr.ms, .int .i64 p.tr.wk, .int .i64 p.tr.ls, .int .i64 p.tr.un, .string p.out, .slice Y p.yes.length e, .bool p.no] 77))
      have HX2 := Lib.hid (off_more HXO.out hN2 (Nat.le_trans HK.out.grows hbc.size))
      have HCO := Lib.hid (show wr.heap.size ∉ O2 from fun hm => by have := hO2 _ hm; omega)
      clear p0 p1 p2 p3 p4 p5 p6 p7 p8 HK hbc hO2 hN2 hK2 hback2
      generalize hW2 : wr.alloc _ = W2 at *
      clear hW2
      generalize wr.heap.size = C at *
      have y0 := cellH HMC.out 0
      have y1 := cellH HMC.out 1
      have y2 := cellH HMC.out 2
      have y3 := cellH HMC.out 3
      have y4 := cellH HMC.out 4
      have y5 := cellH HMC.out 5
      simp at y0 y1 y2 y3 y4 y5
      go_wp2_with fail
      refine (HKA.out.try_ p.tr HIN.out (by omega)).mono ?_
      rintro e w3 ⟨rfl, hk3⟩
      have y6 := cellH (hk3.keep HCO.out HMC.out) 6
      simp at y6
      have HKB := Lib.hid hk3
      clear hk3 y0 y1 y2 y3 y4 y5 HKA
      go_wp2_with fail
      refine (HKB.out.text p.out (by omega) (by omega)).mono ?_
      rintro e w4 ⟨rfl, hk4⟩
      have hm4 := hk4.keep HCO.out HMC.out
      have y7 := cellH hm4 7
      have y8 := cellH hm4 8
      simp at y7 y8
      have HI4 := Lib.hid (HI.out w4 ((HB2.out _ _ _ hk4).xsame HXO.out))
      have HKC := Lib.hid hk4
      clear hk4 hm4 y6 HKB
      go_wp2_with fail
      refine (HKC.out.votes p.no HX2.out HI4.out HYX.out HRI.out (by omega)).mono ?_
      rintro e w5 ⟨rfl, hk5⟩
      have HK5 := Lib.hid (show Wk W O P ((z.ps.take (k + 1)).foldl wPlace T1) (n1 + 1000 * (k + 1)) w5 from by rw [HFT.out]; exact (HB2.out _ _ _ hk5).more (by omega))
      clear hk5 y7 y8 HKC HI4
      go_wp2_with fail
      go_roundw
      case rel => exact ⟨k + 1, by go_num, by omega, HK5⟩
      case measure => simp [intOf]; omega
    · obtain rfl : k = z.ps.length := by omega
      have hlk : ¬ (z.ps.length : Int) < (z.ps.length : Int) := by omega
      have hkk := HK.out
      rw [List.take_length] at hkk
      have HK2 := Lib.hid hkk
      obtain ⟨_, _, _, x3⟩ := (hkk.run HR.out HD.out).cells
      clear hkk HK
      cases hov : z.over with
      | true =>
        rw [hov] at x3 HWR
        clear hov
        go_wp2_with fail
        refine (HK2.out.ints [1] (fun k hk => by rw [List.mem_singleton.1 hk]; omega) (by simp) (by omega)).mono ?_
        rintro e w6 hk6
        have HF := Lib.hid (show WroteV W O P (wRun T z) (.returned (.tuple #[])) w6 from by rw [HWR.out]; obtain ⟨rfl, h⟩ := hk6; exact WkOut.wrote (n := _) ⟨rfl, h⟩)
        obtain ⟨rfl, _⟩ := hk6
        go_wp2_with fail
        exact bodyPost_ret (v := .tuple #[]) (by simp [results, Tryz.results45, go_sem]) rfl HF.out
      | false =>
        rw [hov] at x3 HWR
        clear hov
        go_wp2_with fail
        refine (HK2.out.ints [0] (fun k hk => by rw [List.mem_singleton.1 hk]; omega) (by simp) (by omega)).mono ?_
        rintro e w6 hk6
        have HF := Lib.hid (show WroteV W O P (wRun T z) (.returned (.tuple #[])) w6 from by rw [HWR.out]; obtain ⟨rfl, h⟩ := hk6; exact WkOut.wrote (n := _) ⟨rfl, h⟩)
        obtain ⟨rfl, _⟩ := hk6
        go_wp2_with fail
        exact bodyPost_ret (v := .tuple #[]) (by simp [results, Tryz.results45, go_sem]) rfl HF.out
end
end Go.Proofs.YtfjaibaidpbppaaGreatDoor
