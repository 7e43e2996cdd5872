/-
  The program's Write and Read of tries are what LeaseWrites asks. Conditions: what the library's variables hold.
-/
import Derived.Test.YtbenehdikigbaaaDoorLsX
import Derived.Test.YtbenehdikigbaaaDoorLsOk
import Derived.Test.YtbenehdikigbaaaDoorRd1
import Derived.Test.YtbenehdikigbaaaDoorChain
namespace Go.Proofs.YtbenehdikigbaaaDoor
open Go.RowKit

theorem intsX_size (T : ByteArray) (t : TrP) : (intsX T (tryL t)).size = T.size + (sixX t).size := by
  unfold intsX tryL sixX
  simp only [List.foldl_cons, List.foldl_nil, ByteArray.size_append]
  omega
theorem tryL_in {t : TrP} (h : t.In) : ∀ n ∈ tryL t, -9223372036854775808 ≤ n ∧ n ≤ 9223372036854775807 := fun n hn => by
  simp only [tryL, List.mem_cons, List.not_mem_nil, or_false] at hn
  rcases hn with rfl | rfl | rfl | rfl | rfl | rfl
  · exact h.st
  · exact h.sn
  · exact h.ms
  · exact h.wk
  · exact h.ls
  · exact h.un
theorem ints_six {W : World} {g : Nat} {t : TrP} {T : TypeId} (h : W.heap[g]? = some (.cells (tryA t) T (0, 0))) : IntsAt W (some ⟨g, 0, none⟩) (tryL t) := fun _ => ⟨_, rfl, fun i n hn => by
  have hadd : (⟨g, 0, none⟩ : Addr).add i = ⟨g, i, none⟩ := by unfold Addr.add; split <;> simp_all
  rw [hadd, cellH h]
  have e : [Value.int .i64 t.st, .int .i64 t.sn, .int .i64 t.ms, .int .i64 t.wk, .int .i64 t.ls, .int .i64 t.un] = (tryL t).map (Value.int .i64) := rfl
  show ([Value.int .i64 t.st, .int .i64 t.sn, .int .i64 t.ms, .int .i64 t.wk, .int .i64 t.ls, .int .i64 t.un].toArray)[i]? = _
  rw [e]
  simp [hn]⟩
set_option maxHeartbeats 4000000 in
set_option maxRecDepth 100000 in
theorem lwrite_is {w W : World} {m P : Nat} {T : ByteArray} (t : TrP) (hw : WrB w W m P T) (hl : Below w.heap.size w W) (hm : m ≤ W.heap.size) (hin : t.In) (hT : T.size ≤ 1000000) :
    Calls Tryd.prog 5 #[.pointer (some ⟨P, 0, none⟩), tryV t] W (WroteB w W m P (intsX T (tryL t))) := by
  have hsz : (intsX T (tryL t)).size ≤ 140737488355328 := by rw [intsX_size]; have := sixX_size hin; omega
  have b0 := (Below.refl W.heap.size W).alloc (Nat.le_refl _) (.cells (tryA t) 23)
  have m0 := made_at W (.cells (tryA t) 23)
  have HW := Lib.hid hw
  have HL := Lib.hid hl
  have HIN := Lib.hid (tryL_in hin)
  have HSZ := Lib.hid hsz
  have HM := Lib.hid hm
  clear hw hl hin hT hsz hm
  go_enter Tryd.func5, Tryd.ntmps5
  go_upto_region 1 with fail
  generalize hW0 : W.alloc _ = W0 at *
  clear hW0
  obtain ⟨⟨x0, x1, x2, x3, x4, x5⟩, _⟩ := cells6 m0
  have B0 := Lib.hid b0
  clear b0 m0
  go_wp2_with fail
  refine (lnumbers_is t).mono ?_
  rintro e w1 ⟨rfl, hb1⟩
  have B1 := Lib.hid (below_step B0.out hb1)
  clear hb1 x0 x1 x2 x3 x4 x5
  have N2 := Lib.hid (made_at w1 (.cells (tryA t) 47))
  have B2 := Lib.hid (below_step B1.out ((Below.refl _ w1).alloc (Nat.le_refl _) (.cells (tryA t) 47)))
  have hg : W.heap.size ≤ w1.heap.size := B1.out.size
  have HG := Lib.hid hg
  clear hg
  go_upto_region 2 with fail
  generalize hW2 : w1.alloc _ = W2 at *
  clear hW2
  generalize w1.heap.size = g at *
  clear B1
  go_wp2_with fail
  refine (wb_int (HW.out.below B2.out) (below_step HL.out B2.out) _ (tryL t) 6 (ints_six N2.out) (fun ad e => by obtain rfl := Option.some.inj e; have := HM.out; have := HG.out; show m ≤ g; omega) HIN.out (by simp [tryL]) HSZ.out).mono ?_
  rintro e w6 ⟨rfl, hw6, hb6, hk6⟩
  have HR := Lib.hid (show WroteB w W m P (intsX T (tryL t)) (.returned (.tuple #[])) w6 from ⟨rfl, hw6, hb6, fun j o hj ho => hk6 j o hj (later_at B2.out ho)⟩)
  clear hw6 hb6 hk6
  go_wp2_with fail
  exact bodyPost_ret (v := .tuple #[]) (by simp [results, Tryd.results5, go_sem]) rfl HR.out
/-- What is held while a try is read: the result's block, the reader. -/
structure RfS (w : World) (R gr : Nat) (S : ByteArray) (b : Bool) (W : World) : Prop where
  od : Only1 R w W
  rd : RdAt W R S b
  rs : W.heap[gr]? = some (.cells z6 23 (0, 0))
  ve : VarsAt W
  hi : w.heap.size ≤ gr
  lo : R < w.heap.size
theorem RfS.only {w W V : World} {R gr : Nat} {S S' : ByteArray} {b b' : Bool} (h : RfS w R gr S b W) (hr : RdAt V R S' b') (ho : Only1 R W V) : RfS w R gr S' b' V := by
  have := h.lo
  have := h.hi
  exact ⟨h.od.trans ho, hr, ho.at h.rs (by omega), h.ve.rd h.rd ho, h.hi, h.lo⟩
theorem RfS.later {w W V : World} {R gr : Nat} {S : ByteArray} {b : Bool} (h : RfS w R gr S b W) (hb : Below W.heap.size W V) : RfS w R gr S b V :=
  ⟨h.od.trans (.of_below hb), h.rd.below hb, later_at hb h.rs, h.ve.later hb, h.hi, h.lo⟩
section
variable {w W : World} {R gr g : Nat} {S : ByteArray} {b : Bool} {x0 x1 x2 x3 x4 x5 : Value}
theorem RfS.six (h : RfS w R gr S b W) (hV : VarsAt w) {S0 : ByteArray} {b0 : Bool} (h0 : RdAt w R S0 b0) (hg : w.heap.size ≤ g) (hn : gr ≠ g) : RfS w R gr S b ((((((W.setCell ⟨g, 0, none⟩ x0).setCell ⟨g, 1, none⟩ x1).setCell ⟨g, 2, none⟩ x2).setCell ⟨g, 3, none⟩ x3).setCell ⟨g, 4, none⟩ x4).setCell ⟨g, 5, none⟩ x5) := by
  have h1 := h.lo
  have od : Only1 R w ((((((W.setCell ⟨g, 0, none⟩ x0).setCell ⟨g, 1, none⟩ x1).setCell ⟨g, 2, none⟩ x2).setCell ⟨g, 3, none⟩ x3).setCell ⟨g, 4, none⟩ x4).setCell ⟨g, 5, none⟩ x5) := (((((h.od.setNew hg x0).setNew hg x1).setNew hg x2).setNew hg x3).setNew hg x4).setNew hg x5
  refine ⟨od, ?_, ?_, hV.rd h0 od, h.hi, h.lo⟩
  · show _ = _
    rw [six_keep (show R ≠ g by omega)]
    exact h.rd
  · rw [six_keep hn]
    exact h.rs
theorem rf_rd (h : RfS w R gr S b W) : RdAt ((((((W.setCell ⟨gr, 0, none⟩ x0).setCell ⟨gr, 1, none⟩ x1).setCell ⟨gr, 2, none⟩ x2).setCell ⟨gr, 3, none⟩ x3).setCell ⟨gr, 4, none⟩ x4).setCell ⟨gr, 5, none⟩ x5) R S b := by
  have h1 := h.lo
  have h2 := h.hi
  show _ = _
  rw [six_keep (show R ≠ gr by omega)]
  exact h.rd
theorem rf_od (h : RfS w R gr S b W) : Only1 R w ((((((W.setCell ⟨gr, 0, none⟩ x0).setCell ⟨gr, 1, none⟩ x1).setCell ⟨gr, 2, none⟩ x2).setCell ⟨gr, 3, none⟩ x3).setCell ⟨gr, 4, none⟩ x4).setCell ⟨gr, 5, none⟩ x5) :=
  (((((h.od.setNew h.hi x0).setNew h.hi x1).setNew h.hi x2).setNew h.hi x3).setNew h.hi x4).setNew h.hi x5
end
/-- The greatest that number j + 1 may be. -/
def limJ (m : TrP) : Nat → Int
  | 0 => m.sn
  | 1 => m.ms
  | 2 => m.wk
  | 3 => m.ls
  | _ => m.un
theorem six_read {S : ByteArray} {v0 : Int} {b1 : Bool} {S1 : ByteArray} {vf : Nat → Int} {Sf : Nat → ByteArray} {bf : Nat → Bool} {m : TrP} (hm : m = limP v0) (h0 : Rd1 S false 0 4 v0 S1 b1) (e0 : Sf 0 = S1) (e1 : bf 0 = b1) (hs : ∀ j, j < 5 → Rd1 (Sf j) (bf j) 0 (limJ m j) (vf j) (Sf (j + 1)) (bf (j + 1))) :
    (bf 5 = false → rightT ⟨v0, vf 0, vf 1, vf 2, vf 3, vf 4⟩ = true ∧ S = sixX ⟨v0, vf 0, vf 1, vf 2, vf 3, vf 4⟩ ++ Sf 5) ∧ ∀ t T, rightT t = true → S = sixX t ++ T → bf 5 = false := by
  have h1 := hs 0 (by omega)
  have h2 := hs 1 (by omega)
  have h3 := hs 2 (by omega)
  have h4 := hs 3 (by omega)
  have h5 := hs 4 (by omega)
  rw [e0, e1] at h1
  simp only [limJ, Nat.zero_add, Nat.reduceAdd] at h1 h2 h3 h4 h5
  constructor
  · intro h
    obtain ⟨c5, l5, u5, k5⟩ := h5.yes h
    obtain ⟨c4, l4, u4, k4⟩ := h4.yes c5
    obtain ⟨c3, l3, u3, k3⟩ := h3.yes c4
    obtain ⟨c2, l2, u2, k2⟩ := h2.yes c3
    obtain ⟨c1, l1, u1, k1⟩ := h1.yes c2
    obtain ⟨_, l0, u0, k0⟩ := h0.yes c1
    refine ⟨?_, ?_⟩
    · rw [← allUp_right]
      show allUp _ (limP v0) = true
      rw [← hm]
      have hst : m.st = 4 := by rw [hm]; unfold limP; split <;> (try split) <;> rfl
      unfold allUp
      simp only [Bool.and_eq_true, upTo1_iff, hst]
      exact ⟨⟨⟨⟨⟨⟨l0, u0⟩, l1, u1⟩, l2, u2⟩, l3, u3⟩, l4, u4⟩, l5, u5⟩
    · apply bl_inj
      rw [sixX_bl, k0, k1, k2, k3, k4, k5]
      simp only [bl_append, bl_numX]
  · intro t T ht hS
    have hs := ht
    rw [← allUp_right] at hs
    have hin := rightT_small ht
    have hst : (limP t.st).st = 4 := by unfold limP; split <;> (try split) <;> rfl
    unfold allUp at hs
    simp only [Bool.and_eq_true, upTo1_iff, hst] at hs
    obtain ⟨⟨⟨⟨⟨⟨l0, u0⟩, l1, u1⟩, l2, u2⟩, l3, u3⟩, l4, u4⟩, l5, u5⟩ := hs
    have i1 := hin.sn
    have i2 := hin.ms
    have i3 := hin.wk
    have i4 := hin.ls
    have i5 := hin.un
    unfold smI at i1 i2 i3 i4 i5
    have k0 : S = numX t.st ++ (numX t.sn ++ (numX t.ms ++ (numX t.wk ++ (numX t.ls ++ (numX t.un ++ T))))) := by
      apply bl_inj
      rw [hS, sixX_bl]
      simp only [bl_append, bl_numX]
    have c1 := h0.full _ _ rfl (by omega) (by omega) (by omega) (by omega) k0
    obtain ⟨r0, k1⟩ := h0.same c1 k0
    rw [r0] at hm
    rw [← hm] at u1 u2 u3 u4 u5
    have c2 := h1.full _ _ c1 (by omega) (by omega) (by omega) (by omega) k1
    obtain ⟨_, k2⟩ := h1.same c2 k1
    have c3 := h2.full _ _ c2 (by omega) (by omega) (by omega) (by omega) k2
    obtain ⟨_, k3⟩ := h2.same c3 k2
    have c4 := h3.full _ _ c3 (by omega) (by omega) (by omega) (by omega) k3
    obtain ⟨_, k4⟩ := h3.same c4 k3
    have c5 := h4.full _ _ c4 (by omega) (by omega) (by omega) (by omega) k4
    obtain ⟨_, k5⟩ := h4.same c5 k4
    exact h5.full _ _ c5 (by omega) (by omega) (by omega) (by omega) k5
/-- While the numbers are read: k of them (and, at last, they as one value) stand in their slots. -/
def RfJ (w : World) (R gr gl : Nat) (v0 : Int) (m : TrP) (S1 : ByteArray) (b1 : Bool) (k : Nat) (a : Act) (W : World) : Prop :=
  ∃ (u5 : Value) (xf : Nat → Value) (vf : Nat → Int) (Sf : Nat → ByteArray) (bf : Nat → Bool),
    a = { tmps := #[.pointer (some ⟨R, 0, none⟩), undef, .pointer (some ⟨gr, 0, none⟩), .int .i64 v0, .pointer (some ⟨gl, 0, none⟩), u5, .pointer (some ⟨R, 0, none⟩), .int .i64 v0, .int .i64 v0, tryV m, .int .i64 v0, .pointer (some ⟨R, 0, none⟩), .pointer (some ⟨gl, 1, none⟩), .int .i64 m.sn, xf 0, .pointer (some ⟨R, 0, none⟩), .pointer (some ⟨gl, 2, none⟩), .int .i64 m.ms, xf 1, .pointer (some ⟨R, 0, none⟩), .pointer (some ⟨gl, 3, none⟩), .int .i64 m.wk, xf 2, .pointer (some ⟨R, 0, none⟩), .pointer (some ⟨gl, 4, none⟩), .int .i64 m.ls, xf 3, .pointer (some ⟨R, 0, none⟩), .pointer (some ⟨gl, 5, none⟩), .int .i64 m.un, xf 4, xf 5, undef, undef, undef, undef, undef], defers := [] } ∧
    RfS w R gr (Sf (min k 5)) (bf (min k 5)) W ∧ gl < W.heap.size ∧ Sf 0 = S1 ∧ bf 0 = b1 ∧ (∀ j, j < k → j < 5 → Rd1 (Sf j) (bf j) 0 (limJ m j) (vf j) (Sf (j + 1)) (bf (j + 1)) ∧ xf j = .int .i64 (vf j)) ∧
    (k = 6 → xf 5 = tryV ⟨v0, vf 0, vf 1, vf 2, vf 3, vf 4⟩)
theorem rd1_sizes {vf : Nat → Int} {Sf : Nat → ByteArray} {bf : Nat → Bool} {m : TrP} {k n : Nat} (h0 : (Sf 0).size ≤ n) (h : ∀ j, j < k → j < 5 → Rd1 (Sf j) (bf j) 0 (limJ m j) (vf j) (Sf (j + 1)) (bf (j + 1))) : ∀ j, j ≤ k → j ≤ 5 → (Sf j).size ≤ n
  | 0, _, _ => h0
  | j + 1, h1, h2 => Nat.le_trans (h j (by omega) (by omega)).size (rd1_sizes h0 h j (by omega) (by omega))
set_option maxHeartbeats 8000000 in
set_option maxRecDepth 100000 in
theorem lread_is {w : World} {R : Nat} {S : ByteArray} (hr : RdAt w R S false) (hV : VarsAt w) (hS : S.size ≤ 1000000) :
    Calls Tryd.prog 8 #[.pointer (some ⟨R, 0, none⟩)] w fun e w' => ∃ z b S', e = .returned (tryV z) ∧ RdAt w' R S' b ∧ Only1 R w w' ∧ ReadSpec S z b S' := by
  have m1 := made_at w (.cells z6 23)
  have b1 := (Below.refl w.heap.size w).alloc (Nat.le_refl _) (.cells z6 23)
  have HV := Lib.hid hV
  have H0 := Lib.hid hr
  have HS0 := Lib.hid (show RfS w R w.heap.size S false (w.alloc (.cells z6 23)) from ⟨.of_below b1, hr.below b1, m1, hV.later b1, Nat.le_refl _, hr.low⟩)
  have HSZ := Lib.hid hS
  clear m1 b1 hV hr hS
  go_enter Tryd.func8, Tryd.ntmps8
  go_upto_region 1 with fail
  generalize hW0 : w.alloc _ = W0 at *
  clear hW0
  go_wp2_with fail
  refine (int_step HS0.out.rd HS0.out.ve HSZ.out 0 4).mono ?_
  rintro e u0 ⟨v0, S1, b1, rfl, hr, ho, hd0⟩
  have HS1 := Lib.hid (HS0.out.only hr ho)
  have HD0 := Lib.hid hd0
  have HSZ1 := Lib.hid (Nat.le_trans hd0.size HSZ.out)
  obtain ⟨m, hm⟩ : ∃ m, m = limP v0 := ⟨_, rfl⟩
  have HM := Lib.hid hm
  have HL := Lib.hid (fun W : World => show Calls Tryd.prog 26 #[.int .i64 v0] W (fun e w' => e = .returned (tryV m) ∧ Below W.heap.size W w') from by rw [hm]; exact llimits_is _)
  clear hr ho hd0 hm HS0
  go_wp2_with fail
  refine (HL.out _).mono ?_
  rintro e u1 ⟨rfl, hb1⟩
  have HS2 := Lib.hid (HS1.out.later hb1)
  clear hb1 HS1 HL
  have hal := (Below.refl u1.heap.size u1).alloc (Nat.le_refl _) (.cells (tryA m) 23)
  have HS3 := Lib.hid (HS2.out.later hal)
  have HLM := Lib.hid (made_at u1 (.cells (tryA m) 23))
  have HGL := Lib.hid (show w.heap.size < u1.heap.size from (Array.getElem?_eq_some_iff.1 HS2.out.rs).1)
  clear hal HS2
  go_upto_region 3 with fail
  generalize hW3 : u1.alloc _ = W3 at *
  clear hW3
  generalize u1.heap.size = gl at *
  refine wp_region_noPanic ?_
  refine wp_region_held_drew (S := fun W' => W'.heap[gl]? = some (.cells (tryA m) 23 (0, 0))) (by kernel_rfl) (by exact HLM.out) (fun hHeld => ?_)
  refine take_yes 0 10 (v := ?_) rfl rfl (by kernel_rfl) (by kernel_rfl) (by kernel_rfl) noPanic_any (by rfl) hHeld ?_ ?_
  rotate_left
  · intro wx hSw; (try dsimp only at hSw); go_simp <;> with_reducible rfl
  simp only [Act.put, List.setIfInBounds_toArray, List.set_cons_zero, List.set_cons_succ]
  refine take_yes 1 11 (v := ?_) rfl rfl (by kernel_rfl) (by kernel_rfl) (by kernel_rfl) noPanic_any (by rfl) hHeld ?_ ?_
  rotate_left
  · intro wx hSw; (try dsimp only at hSw); go_simp <;> with_reducible rfl
  simp only [Act.put, List.setIfInBounds_toArray, List.set_cons_zero, List.set_cons_succ]
  refine take_yes 2 12 (v := ?_) rfl rfl (by kernel_rfl) (by kernel_rfl) (by kernel_rfl) noPanic_any (by rfl) hHeld ?_ ?_
  rotate_left
  · intro wx hSw; (try dsimp only at hSw); go_simp <;> with_reducible rfl
  simp only [Act.put, List.setIfInBounds_toArray, List.set_cons_zero, List.set_cons_succ]
  refine take_yes 3 13 (v := ?_) rfl rfl (by kernel_rfl) (by kernel_rfl) (by kernel_rfl) noPanic_any (by rfl) hHeld ?_ ?_
  rotate_left
  · intro wx hSw; (try dsimp only at hSw); have y0 := cellH hSw 1; simp at y0; go_simp <;> with_reducible rfl
  simp only [Act.put, List.setIfInBounds_toArray, List.set_cons_zero, List.set_cons_succ]
  refine take_yes 5 15 (v := ?_) rfl rfl (by kernel_rfl) (by kernel_rfl) (by kernel_rfl) noPanic_any (by rfl) hHeld ?_ ?_
  rotate_left
  · intro wx hSw; (try dsimp only at hSw); go_simp <;> with_reducible rfl
  simp only [Act.put, List.setIfInBounds_toArray, List.set_cons_zero, List.set_cons_succ]
  refine take_yes 6 16 (v := ?_) rfl rfl (by kernel_rfl) (by kernel_rfl) (by kernel_rfl) noPanic_any (by rfl) hHeld ?_ ?_
  rotate_left
  · intro wx hSw; (try dsimp only at hSw); go_simp <;> with_reducible rfl
  simp only [Act.put, List.setIfInBounds_toArray, List.set_cons_zero, List.set_cons_succ]
  refine take_yes 7 17 (v := ?_) rfl rfl (by kernel_rfl) (by kernel_rfl) (by kernel_rfl) noPanic_any (by rfl) hHeld ?_ ?_
  rotate_left
  · intro wx hSw; (try dsimp only at hSw); have y0 := cellH hSw 2; simp at y0; go_simp <;> with_reducible rfl
  simp only [Act.put, List.setIfInBounds_toArray, List.set_cons_zero, List.set_cons_succ]
  refine take_yes 9 19 (v := ?_) rfl rfl (by kernel_rfl) (by kernel_rfl) (by kernel_rfl) noPanic_any (by rfl) hHeld ?_ ?_
  rotate_left
  · intro wx hSw; (try dsimp only at hSw); go_simp <;> with_reducible rfl
  simp only [Act.put, List.setIfInBounds_toArray, List.set_cons_zero, List.set_cons_succ]
  refine take_yes 10 20 (v := ?_) rfl rfl (by kernel_rfl) (by kernel_rfl) (by kernel_rfl) noPanic_any (by rfl) hHeld ?_ ?_
  rotate_left
  · intro wx hSw; (try dsimp only at hSw); go_simp <;> with_reducible rfl
  simp only [Act.put, List.setIfInBounds_toArray, List.set_cons_zero, List.set_cons_succ]
  refine take_yes 11 21 (v := ?_) rfl rfl (by kernel_rfl) (by kernel_rfl) (by kernel_rfl) noPanic_any (by rfl) hHeld ?_ ?_
  rotate_left
  · intro wx hSw; (try dsimp only at hSw); have y0 := cellH hSw 3; simp at y0; go_simp <;> with_reducible rfl
  simp only [Act.put, List.setIfInBounds_toArray, List.set_cons_zero, List.set_cons_succ]
  refine take_yes 13 23 (v := ?_) rfl rfl (by kernel_rfl) (by kernel_rfl) (by kernel_rfl) noPanic_any (by rfl) hHeld ?_ ?_
  rotate_left
  · intro wx hSw; (try dsimp only at hSw); go_simp <;> with_reducible rfl
  simp only [Act.put, List.setIfInBounds_toArray, List.set_cons_zero, List.set_cons_succ]
  refine take_yes 14 24 (v := ?_) rfl rfl (by kernel_rfl) (by kernel_rfl) (by kernel_rfl) noPanic_any (by rfl) hHeld ?_ ?_
  rotate_left
  · intro wx hSw; (try dsimp only at hSw); go_simp <;> with_reducible rfl
  simp only [Act.put, List.setIfInBounds_toArray, List.set_cons_zero, List.set_cons_succ]
  refine take_yes 15 25 (v := ?_) rfl rfl (by kernel_rfl) (by kernel_rfl) (by kernel_rfl) noPanic_any (by rfl) hHeld ?_ ?_
  rotate_left
  · intro wx hSw; (try dsimp only at hSw); have y0 := cellH hSw 4; simp at y0; go_simp <;> with_reducible rfl
  simp only [Act.put, List.setIfInBounds_toArray, List.set_cons_zero, List.set_cons_succ]
  refine take_yes 17 27 (v := ?_) rfl rfl (by kernel_rfl) (by kernel_rfl) (by kernel_rfl) noPanic_any (by rfl) hHeld ?_ ?_
  rotate_left
  · intro wx hSw; (try dsimp only at hSw); go_simp <;> with_reducible rfl
  simp only [Act.put, List.setIfInBounds_toArray, List.set_cons_zero, List.set_cons_succ]
  refine take_yes 18 28 (v := ?_) rfl rfl (by kernel_rfl) (by kernel_rfl) (by kernel_rfl) noPanic_any (by rfl) hHeld ?_ ?_
  rotate_left
  · intro wx hSw; (try dsimp only at hSw); go_simp <;> with_reducible rfl
  simp only [Act.put, List.setIfInBounds_toArray, List.set_cons_zero, List.set_cons_succ]
  refine take_yes 19 29 (v := ?_) rfl rfl (by kernel_rfl) (by kernel_rfl) (by kernel_rfl) noPanic_any (by rfl) hHeld ?_ ?_
  rotate_left
  · intro wx hSw; (try dsimp only at hSw); have y0 := cellH hSw 5; simp at y0; go_simp <;> with_reducible rfl
  simp only [Act.put, List.setIfInBounds_toArray, List.set_cons_zero, List.set_cons_succ]
  have HSD := Lib.hid (HS3.out.later (Below.refl _ _).drew)
  clear HS3 HLM
  have HLT := Lib.hid (show gl < W3.drew.heap.size from (Array.getElem?_eq_some_iff.1 hHeld).1)
  generalize W3.drew = W4 at *
  refine chain_all (i0 := 22) (d := 5) (N := gl + 1) (ob := .cells z6 23) 1 [4, 8, 12, 16, 20, 21] rfl rfl rfl rfl (fun W => by go_simp) (by kernel_rfl) (RfJ w R w.heap.size gl v0 m S1 b1) ?j0 hHeld ?jJ ?jN ?jS ?jst ?jend
  case j0 => exact ⟨undef, fun _ => undef, fun _ => 0, fun _ => S1, fun _ => b1, rfl, HSD.out, HLT.out, rfl, rfl, fun j hj => by omega, fun h => by omega⟩
  case jJ =>
    rintro k a W ⟨u5, xf, vf, Sf, bf, rfl, h1, h2, h3, h4, h5, h6⟩
    have hb := (Below.refl W.heap.size W).alloc (Nat.le_refl _) (.cells z6 23)
    exact ⟨_, xf, vf, Sf, bf, rfl, h1.later hb, Nat.lt_of_lt_of_le h2 hb.size, h3, h4, h5, h6⟩
  case jN =>
    rintro k a W ⟨u5, xf, vf, Sf, bf, rfl, h1, h2, h3, h4, h5, h6⟩
    exact ⟨h2, by simp⟩
  case jS =>
    intro W hW
    exact later_at ((Below.refl W.heap.size W).alloc (Nat.le_refl _) _) hW
  case jst =>
    intro j i hi a W hj hs
    match j, hi with
    | 0, hi =>
      obtain rfl : 4 = i := by simpa using hi
      obtain ⟨u5, xf, vf, Sf, bf, rfl, h1, h2, h3, h4, h5, h6⟩ := hj
      refine wpOp_step rfl (fun KK hKK => ?_)
      have HKK := Lib.hid hKK
      have HJ1 := Lib.hid h1
      have HJ5 := Lib.hid h5
      have HJ3 := Lib.hid h3
      have HJS := Lib.hid (show (Sf 0).size ≤ 1000000 from rd1_sizes (by rw [h3]; exact HSZ1.out) (fun j a b => (h5 j a b).1) 0 (by omega) (by omega))
      clear hKK h1 h5 h3 h6
      go_simp
      refine (int_step HJ1.out.rd HJ1.out.ve HJS.out 0 (limJ m 0)).mono ?_
      rintro e W' ⟨v, S', b', rfl, hr, ho, hd⟩
      refine HKK.out _ _ ⟨ho.at hs (by have := HJ1.out.lo; have := HJ1.out.hi; have := HGL.out; omega), ⟨u5, fun j => if j = 0 then .int .i64 v else xf j, fun j => if j = 0 then v else vf j, fun j => if j = 1 then S' else Sf j, fun j => if j = 1 then b' else bf j, rfl, HJ1.out.only hr ho, Nat.lt_of_lt_of_le h2 ho.size, HJ3.out, h4, fun j hj1 hj2 => ?_, fun h => by omega⟩, fun g hg hw => ho.at hw (by have := HJ1.out.lo; have := HJ1.out.hi; have := HGL.out; omega), rfl⟩
      by_cases hjk : j = 0
      · subst hjk
        exact ⟨hd, rfl⟩
      · have hjl : j < 0 := by omega
        have hj5 := HJ5.out j hjl hj2
        simp only [if_neg hjk, if_neg (show ¬ j = 1 by omega), if_neg (show ¬ j + 1 = 1 by omega)]
        exact hj5
    | 1, hi =>
      obtain rfl : 8 = i := by simpa using hi
      obtain ⟨u5, xf, vf, Sf, bf, rfl, h1, h2, h3, h4, h5, h6⟩ := hj
      refine wpOp_step rfl (fun KK hKK => ?_)
      have HKK := Lib.hid hKK
      have HJ1 := Lib.hid h1
      have HJ5 := Lib.hid h5
      have HJ3 := Lib.hid h3
      have HJS := Lib.hid (show (Sf 1).size ≤ 1000000 from rd1_sizes (by rw [h3]; exact HSZ1.out) (fun j a b => (h5 j a b).1) 1 (by omega) (by omega))
      clear hKK h1 h5 h3 h6
      go_simp
      refine (int_step HJ1.out.rd HJ1.out.ve HJS.out 0 (limJ m 1)).mono ?_
      rintro e W' ⟨v, S', b', rfl, hr, ho, hd⟩
      refine HKK.out _ _ ⟨ho.at hs (by have := HJ1.out.lo; have := HJ1.out.hi; have := HGL.out; omega), ⟨u5, fun j => if j = 1 then .int .i64 v else xf j, fun j => if j = 1 then v else vf j, fun j => if j = 2 then S' else Sf j, fun j => if j = 2 then b' else bf j, rfl, HJ1.out.only hr ho, Nat.lt_of_lt_of_le h2 ho.size, HJ3.out, h4, fun j hj1 hj2 => ?_, fun h => by omega⟩, fun g hg hw => ho.at hw (by have := HJ1.out.lo; have := HJ1.out.hi; have := HGL.out; omega), rfl⟩
      by_cases hjk : j = 1
      · subst hjk
        exact ⟨hd, rfl⟩
      · have hjl : j < 1 := by omega
        have hj5 := HJ5.out j hjl hj2
        simp only [if_neg hjk, if_neg (show ¬ j = 2 by omega), if_neg (show ¬ j + 1 = 2 by omega)]
        exact hj5
    | 2, hi =>
      obtain rfl : 12 = i := by simpa using hi
      obtain ⟨u5, xf, vf, Sf, bf, rfl, h1, h2, h3, h4, h5, h6⟩ := hj
      refine wpOp_step rfl (fun KK hKK => ?_)
      have HKK := Lib.hid hKK
      have HJ1 := Lib.hid h1
      have HJ5 := Lib.hid h5
      have HJ3 := Lib.hid h3
      have HJS := Lib.hid (show (Sf 2).size ≤ 1000000 from rd1_sizes (by rw [h3]; exact HSZ1.out) (fun j a b => (h5 j a b).1) 2 (by omega) (by omega))
      clear hKK h1 h5 h3 h6
      go_simp
      refine (int_step HJ1.out.rd HJ1.out.ve HJS.out 0 (limJ m 2)).mono ?_
      rintro e W' ⟨v, S', b', rfl, hr, ho, hd⟩
      refine HKK.out _ _ ⟨ho.at hs (by have := HJ1.out.lo; have := HJ1.out.hi; have := HGL.out; omega), ⟨u5, fun j => if j = 2 then .int .i64 v else xf j, fun j => if j = 2 then v else vf j, fun j => if j = 3 then S' else Sf j, fun j => if j = 3 then b' else bf j, rfl, HJ1.out.only hr ho, Nat.lt_of_lt_of_le h2 ho.size, HJ3.out, h4, fun j hj1 hj2 => ?_, fun h => by omega⟩, fun g hg hw => ho.at hw (by have := HJ1.out.lo; have := HJ1.out.hi; have := HGL.out; omega), rfl⟩
      by_cases hjk : j = 2
      · subst hjk
        exact ⟨hd, rfl⟩
      · have hjl : j < 2 := by omega
        have hj5 := HJ5.out j hjl hj2
        simp only [if_neg hjk, if_neg (show ¬ j = 3 by omega), if_neg (show ¬ j + 1 = 3 by omega)]
        exact hj5
    | 3, hi =>
      obtain rfl : 16 = i := by simpa using hi
      obtain ⟨u5, xf, vf, Sf, bf, rfl, h1, h2, h3, h4, h5, h6⟩ := hj
      refine wpOp_step rfl (fun KK hKK => ?_)
      have HKK := Lib.hid hKK
      have HJ1 := Lib.hid h1
      have HJ5 := Lib.hid h5
      have HJ3 := Lib.hid h3
      have HJS := Lib.hid (show (Sf 3).size ≤ 1000000 from rd1_sizes (by rw [h3]; exact HSZ1.out) (fun j a b => (h5 j a b).1) 3 (by omega) (by omega))
      clear hKK h1 h5 h3 h6
      go_simp
      refine (int_step HJ1.out.rd HJ1.out.ve HJS.out 0 (limJ m 3)).mono ?_
      rintro e W' ⟨v, S', b', rfl, hr, ho, hd⟩
      refine HKK.out _ _ ⟨ho.at hs (by have := HJ1.out.lo; have := HJ1.out.hi; have := HGL.out; omega), ⟨u5, fun j => if j = 3 then .int .i64 v else xf j, fun j => if j = 3 then v else vf j, fun j => if j = 4 then S' else Sf j, fun j => if j = 4 then b' else bf j, rfl, HJ1.out.only hr ho, Nat.lt_of_lt_of_le h2 ho.size, HJ3.out, h4, fun j hj1 hj2 => ?_, fun h => by omega⟩, fun g hg hw => ho.at hw (by have := HJ1.out.lo; have := HJ1.out.hi; have := HGL.out; omega), rfl⟩
      by_cases hjk : j = 3
      · subst hjk
        exact ⟨hd, rfl⟩
      · have hjl : j < 3 := by omega
        have hj5 := HJ5.out j hjl hj2
        simp only [if_neg hjk, if_neg (show ¬ j = 4 by omega), if_neg (show ¬ j + 1 = 4 by omega)]
        exact hj5
    | 4, hi =>
      obtain rfl : 20 = i := by simpa using hi
      obtain ⟨u5, xf, vf, Sf, bf, rfl, h1, h2, h3, h4, h5, h6⟩ := hj
      refine wpOp_step rfl (fun KK hKK => ?_)
      have HKK := Lib.hid hKK
      have HJ1 := Lib.hid h1
      have HJ5 := Lib.hid h5
      have HJ3 := Lib.hid h3
      have HJS := Lib.hid (show (Sf 4).size ≤ 1000000 from rd1_sizes (by rw [h3]; exact HSZ1.out) (fun j a b => (h5 j a b).1) 4 (by omega) (by omega))
      clear hKK h1 h5 h3 h6
      go_simp
      refine (int_step HJ1.out.rd HJ1.out.ve HJS.out 0 (limJ m 4)).mono ?_
      rintro e W' ⟨v, S', b', rfl, hr, ho, hd⟩
      refine HKK.out _ _ ⟨ho.at hs (by have := HJ1.out.lo; have := HJ1.out.hi; have := HGL.out; omega), ⟨u5, fun j => if j = 4 then .int .i64 v else xf j, fun j => if j = 4 then v else vf j, fun j => if j = 5 then S' else Sf j, fun j => if j = 5 then b' else bf j, rfl, HJ1.out.only hr ho, Nat.lt_of_lt_of_le h2 ho.size, HJ3.out, h4, fun j hj1 hj2 => ?_, fun h => by omega⟩, fun g hg hw => ho.at hw (by have := HJ1.out.lo; have := HJ1.out.hi; have := HGL.out; omega), rfl⟩
      by_cases hjk : j = 4
      · subst hjk
        exact ⟨hd, rfl⟩
      · have hjl : j < 4 := by omega
        have hj5 := HJ5.out j hjl hj2
        simp only [if_neg hjk, if_neg (show ¬ j = 5 by omega), if_neg (show ¬ j + 1 = 5 by omega)]
        exact hj5
    | 5, hi =>
      obtain rfl : 21 = i := by simpa using hi
      obtain ⟨u5, xf, vf, Sf, bf, rfl, h1, h2, h3, h4, h5, h6⟩ := hj
      refine wpOp_step rfl (fun KK hKK => ?_)
      have HKK := Lib.hid hKK
      have HJ1 := Lib.hid h1
      have HJ5 := Lib.hid h5
      have HJ3 := Lib.hid h3
      have y0 := (h5 0 (by omega) (by omega)).2
      have y1 := (h5 1 (by omega) (by omega)).2
      have y2 := (h5 2 (by omega) (by omega)).2
      have y3 := (h5 3 (by omega) (by omega)).2
      have y4 := (h5 4 (by omega) (by omega)).2
      clear hKK h1 h5 h3 h6
      go_simp
      refine HKK.out _ _ ⟨hs, ⟨u5, fun j => if j = 5 then tryV ⟨v0, vf 0, vf 1, vf 2, vf 3, vf 4⟩ else xf j, vf, Sf, bf, ?_, HJ1.out, h2, HJ3.out, h4, fun j hj1 hj2 => ?_, fun _ => rfl⟩, fun g hg hw => hw, rfl⟩
      · simp only [y0, y1, y2, y3, y4]
        rfl
      · have hj5 := HJ5.out j hj2 hj2
        simp only [if_neg (show ¬ j = 5 by omega)]
        exact hj5
    | j + 6, hi => simp at hi
  case jend =>
    rintro a W g ⟨u5, xf, vf, Sf, bf, rfl, h1, h2, h3, h4, h5, h6⟩ hs hg hw he
    obtain rfl : u5 = .pointer (some ⟨g, 0, none⟩) := he
    have h6' := h6 rfl
    have HSR := Lib.hid (six_read HM.out HD0.out h3 h4 (fun j hj => (h5 j (by show j < 6; omega) hj).1))
    have HJ := Lib.hid (show RfS w R w.heap.size (Sf 5) (bf 5) W from h1)
    obtain ⟨z, hz⟩ : ∃ z : TrP, z = ⟨v0, vf 0, vf 1, vf 2, vf 3, vf 4⟩ := ⟨_, rfl⟩
    rw [← hz] at h6' HSR
    have HWG := Lib.hid hw
    have HNL := Lib.hid (show gl ≠ g by omega)
    have HNG := Lib.hid (show w.heap.size ≠ g ∧ w.heap.size ≤ g by have := HGL.out; have := HJ.out.hi; omega)
    obtain ⟨⟨q0, q1, q2, q3, q4, q5⟩, f0, f1, f2, f3, f4, f5⟩ := cells6 hw
    clear h1 h2 h3 h4 h5 h6 hz hw hg
    rw [h6']
    generalize bf 5 = b6 at *
    generalize Sf 5 = S6 at *
    refine one_readyH (i := 23) (by kernel_rfl) (wpOp_step rfl (fun KK hKK => ?_))
    have HKK := Lib.hid hKK
    clear hKK
    go_simp
    refine HKK.out _ _ ⟨?_, ?_⟩
    · rw [six_keep HNL.out]
      exact hs
    refine wpAnyH_done (by kernel_rfl) ?_ _
    refine NoPanic.normal ?_
    have HS6 := Lib.hid (HJ.out.six (x0 := .int .i64 z.st) (x1 := .int .i64 z.sn) (x2 := .int .i64 z.ms) (x3 := .int .i64 z.wk) (x4 := .int .i64 z.ls) (x5 := .int .i64 z.un) HV.out H0.out HNG.out.2 HNG.out.1)
    have HG6 := Lib.hid (six_row (v0 := .int .i64 z.st) (v1 := .int .i64 z.sn) (v2 := .int .i64 z.ms) (v3 := .int .i64 z.wk) (v4 := .int .i64 z.ls) (v5 := .int .i64 z.un) HWG.out)
    clear HKK KK q0 q1 q2 q3 q4 q5 f0 f1 f2 f3 f4 f5 hs HJ HWG
    generalize hV6 : ((((((W.setCell ⟨g, 0, none⟩ (.int .i64 z.st)).setCell ⟨g, 1, none⟩ (.int .i64 z.sn)).setCell ⟨g, 2, none⟩ (.int .i64 z.ms)).setCell ⟨g, 3, none⟩ (.int .i64 z.wk)).setCell ⟨g, 4, none⟩ (.int .i64 z.ls)).setCell ⟨g, 5, none⟩ (.int .i64 z.un)) = V6 at *
    clear hV6
    go_wp2_with fail
    refine (rd_ok HS6.out.rd).mono ?_
    rintro e w9 ⟨rfl, hb9⟩
    have HS9 := Lib.hid (HS6.out.later hb9)
    have HG9 := Lib.hid (later_at hb9 HG6.out)
    clear hb9 HS6 HG6
    obtain ⟨⟨y0, y1, y2, y3, y4, y5⟩, f0, f1, f2, f3, f4, f5⟩ := cells6 HS9.out.rs
    cases b6 with
    | true =>
      go_wp2_with fail
      exact bodyPost_ret (results_cell_row (fn := Tryd.f8) rfl _ _ w.heap.size 23 z6 (0, 0) _ rfl (six_row HS9.out.rs) Tryd.underlying23 rfl info_tryL) rfl ⟨noTr, true, S6, rfl, rf_rd HS9.out, rf_od HS9.out, fun _ => rfl, (fun h => by cases h), fun t T ht hS => HSR.out.2 t T ht hS⟩
    | false =>
      obtain ⟨⟨x0, x1, x2, x3, x4, x5⟩, _⟩ := cells6 HG9.out
      go_wp2_with fail
      exact bodyPost_ret (results_cell_row (fn := Tryd.f8) rfl _ _ w.heap.size 23 (tryA z) (0, 0) _ rfl (six_row HS9.out.rs) Tryd.underlying23 rfl info_tryL) rfl ⟨z, false, S6, rfl, rf_rd HS9.out, rf_od HS9.out, (fun h => by cases h), fun _ => HSR.out.1 (by first | rfl | trivial), fun t T ht hS => rfl⟩
theorem ls_rw : LsRW where
  write := fun t hw hl hm hin hT => lwrite_is t hw hl hm hin hT
  read := fun hr hV hS => lread_is hr hV hS
end Go.Proofs.YtbenehdikigbaaaDoor
