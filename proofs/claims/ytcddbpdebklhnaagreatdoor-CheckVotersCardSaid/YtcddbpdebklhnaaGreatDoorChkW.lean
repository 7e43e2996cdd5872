/-
  CheckVoters over the bundle. No conditions but how the arguments lie.
-/
import Derived.Test.YtcddbpdebklhnaaGreatDoorChkV
namespace Go.Proofs.YtcddbpdebklhnaaGreatDoor
open Go.RowKit

section
variable {w : World} {A B : Option Addr} {c d : Nat}
set_option maxHeartbeats 400000 in
set_option maxRecDepth 100000 in
theorem samen_is {l : List Nat} (ha : NatsAt w A l) (hb : NatsAt w B l) (hn : l.length ≤ 64) :
    Calls Tryz.prog 15 #[.slice A l.length c, .slice B l.length d] w fun e w' => e = .returned (.bool true) ∧ Below w.heap.size w w' := by
  have HA := Lib.hid ha
  have HB := Lib.hid hb
  clear ha hb
  go_enter Tryz.func15, Tryz.ntmps15
  go_wp2
  go_loopw [5] (fun i wr => ∃ k q : Nat, k ≤ l.length ∧ i = .int .i64 k ∧ wr = w.drewN q) (fun i _ => l.length - (intOf i).toNat)
  case atStart => exact ⟨0, 0, Nat.zero_le _, rfl, rfl⟩
  case round =>
    obtain ⟨k, q, hk, rfl, rfl⟩ := hrel
    by_cases hlt : k < l.length
    · obtain ⟨z, hz⟩ : ∃ z, l[k]? = some z := ⟨_, List.getElem?_eq_getElem hlt⟩
      obtain ⟨ad, rfl, h0⟩ := HA.out.at_ hz
      obtain ⟨bd, rfl, h1⟩ := HB.out.at_ hz
      clear hz
      go_wp2
      go_quiet (fail)
      go_wp2
      go_roundw
      case rel => exact ⟨k + 1, _, by omega, by go_num, rfl⟩
      case measure => simp [intOf]; omega
    · go_wp2
      go_ret
      exact ⟨rfl, Below.drewN_ (Below.refl _ _) _⟩
end
theorem two_made' (w : World) (o1 o2 : Obj) : ((w.alloc o1).alloc o2).heap[w.heap.size]? = some o1 ∧ ((w.alloc o1).alloc o2).heap[w.heap.size + 1]? = some o2 ∧ Below w.heap.size w ((w.alloc o1).alloc o2) := by
  have al : ∀ (v : World) (o : Obj), Below v.heap.size v (v.alloc o) := fun v o => (Below.refl _ _).alloc (Nat.le_refl _) o
  have m2 := made_at (w.alloc o1) o2
  rw [World.size_alloc] at m2
  exact ⟨later_at (al _ _) (made_at w o1), m2, below_step (al _ _) (al _ _)⟩
set_option maxHeartbeats 4000000 in
set_option maxRecDepth 100000 in
theorem checkvoters_true (hM : CheckOk) {V : World → Prop} (hW : ∀ w : World, V w → Calls Tryz.prog 5 #[] w fun e w' => e = .returned (.bool true) ∧ Below w.heap.size w w') (hVL : ∀ w w' : World, V w → Below w.heap.size w w' → V w')
    {w : World} {L B : Option Addr} {n m cl d : Nat} {lv st pt al au : Nat → Int} (part la sa lb sb : Int) (hV : V w)
    (hl : LabsAt w L n lv st) (hlc : n ≤ cl) (hln : L = none → n = 0) (hls : ∀ i, i < n → SetN (st i)) (hp : PepsAt w B m pt al au) (hpn : B = none → m = 0) (hps : ∀ i, i < m → SetN (au i)) (hsa : SetN sa) (hsb : SetN sb) :
    Calls Tryz.prog 4 #[.slice L n cl, .slice B m d, .int .i64 part, .agg #[.int .i64 la, .int .u16 sa], .agg #[.int .i64 lb, .int .u16 sb]] w fun e w' => e = .returned (.bool true) ∧ Below w.heap.size w w' := by
  obtain ⟨ma, mb, b1⟩ := two_made' w (.cells #[.int .i64 la, .int .u16 sa] 41) (.cells #[.int .i64 lb, .int .u16 sb] 41)
  have HXA := Lib.hid ma
  have HXB := Lib.hid mb
  have HM := Lib.hid hM
  have HW := Lib.hid hW
  have HVL := Lib.hid hVL
  have HLC := Lib.hid hlc
  have HLN := Lib.hid hln
  have HLS := Lib.hid hls
  have HPN := Lib.hid hpn
  have HPS := Lib.hid hps
  have HSA := Lib.hid hsa
  have HSB := Lib.hid hsb
  have HLA := Lib.hid (hl.later b1)
  have HPE := Lib.hid (hp.later b1)
  have HV := Lib.hid (hVL _ _ hV b1)
  have HB0 := Lib.hid b1
  clear b1 hl hlc hln hls hp hpn hps hV hM hW hVL ma mb hsa hsb
  go_enter Tryz.func4, Tryz.ntmps4
  go_upto_region 1 with fail
  generalize hW0 : ((w.alloc (.cells #[.int .i64 la, .int .u16 sa] 41)).alloc (.cells #[.int .i64 lb, .int .u16 sb] 41)) = W0 at *
  clear hW0
  go_wp2_with fail
  refine (HW.out _ HV.out).mono ?_
  rintro e w1 ⟨rfl, hb1⟩
  have HB2 := Lib.hid hb1
  clear hb1
  obtain ⟨fv, hfv⟩ : ∃ fv, fv = faultV n m lv st pt al := ⟨_, rfl⟩
  have hnew0 := refnew_is (c := cl) (d := d) (HLA.out.later HB2.out) (HPE.out.later HB2.out)
  rw [← hfv] at hnew0
  have HN0 := Lib.hid hnew0
  have HFV := Lib.hid hfv
  clear hnew0 hfv
  go_wp2_with fail
  refine HN0.out.mono ?_
  rintro e w3 ⟨rfl, hb3⟩
  have HB3 := Lib.hid (below_step HB2.out hb3)
  clear hb3 HB2 HN0
  by_cases hf0 : fv = 0
  case neg =>
    have n1 : (fv != 0) = true := bne_iff_ne.2 hf0
    clear hf0
    go_wp2_with fail
    refine (HW.out _ (HVL.out _ _ HV.out HB3.out)).mono ?_
    rintro e w4 ⟨rfl, hb4⟩
    have HB4 := Lib.hid (below_step HB3.out hb4)
    clear hb4
    go_wp2_with fail
    go_ret
    exact ⟨rfl, below_step HB0.out HB4.out⟩
  case pos =>
  subst hf0
  have HG := Lib.hid (good_of HFV.out.symm HLS.out HPS.out)
  have hnew := new_is (d := d) (HLA.out.later HB3.out) (HPE.out.later HB3.out) HLC.out HLN.out HPN.out
  have HNW := Lib.hid hnew
  clear hnew
  go_wp2_with fail
  refine HNW.out.mono ?_
  rintro e w4 ⟨hb4, hout⟩
  obtain ⟨R, rfl, hR⟩ : ∃ R, e = .returned (.tuple #[.pointer (some ⟨R, 0, none⟩), .int .i64 0]) ∧ RosAt w4 R n m lv st pt al au := by
    rcases hout with ⟨h, _⟩ | ⟨_, h⟩
    · exact absurd HFV.out.symm h
    · exact h
  have HB4 := Lib.hid (below_step HB3.out hb4)
  have HR := Lib.hid hR
  clear hb4 hout hR HNW HB3
  have x0 := cellH (later_at HB4.out HXA.out) 0
  have x1 := cellH (later_at HB4.out HXA.out) 1
  simp at x0 x1
  have hvot := HM.out.voters part la sa HSA.out HR.out HG.out
  have hvl := votersL_len (n := n) (m := m) (lv := lv) (st := st) (pt := pt) (al := al) (au := au) part la sa
  have hm12 : m ≤ 12 := HG.out.len.2.2
  obtain ⟨vs, hvs⟩ : ∃ vs, vs = votersL n m lv st pt al au part la sa := ⟨_, rfl⟩
  rw [← hvs] at hvot hvl
  have HVO := Lib.hid hvot
  have HVS := Lib.hid hvs
  clear hvot hvs
  go_upto_region 4 with fail
  go_wp2_with fail
  refine HVO.out.mono ?_
  rintro e w5 ⟨⟨VB, vb, rfl, hvN⟩, hb5⟩
  have HB5 := Lib.hid (below_step HB4.out hb5)
  have HR5 := Lib.hid (HR.out.later hb5)
  have HN5 := Lib.hid hvN
  clear hvN hb5 HVO HR x0 x1
  cases hth : thereB part n with
  | false =>
    have hv0 : vs = [] := by rw [HVS.out]; exact voters_none HG.out la sa hth
    have hv1 : vs.length = 0 := by rw [hv0]; rfl
    have n1 : ((vs.length : Int) == 0) = true := by rw [hv1]; rfl
    by_cases hp0 : part < 0
    · clear hth hv0 hv1
      go_wp2_with fail
      go_ret
      exact ⟨by first | rfl | simp, below_step HB0.out HB5.out⟩
    · have hp1 : (n : Int) ≤ part := by
        unfold thereB at hth
        simp at hth
        omega
      clear hth hv0 hv1
      go_wp2_with fail
      go_ret
      exact ⟨by first | rfl | simp, below_step HB0.out HB5.out⟩
  | true =>
  obtain ⟨q, hq, rfl⟩ := there_nat hth
  have hp0 : ¬ (q : Int) < 0 := by omega
  have hp1 : ¬ (n : Int) ≤ (q : Int) := by omega
  clear hth
  have x0 := cellH (later_at HB5.out HXA.out) 0
  have x1 := cellH (later_at HB5.out HXA.out) 1
  have y0 := cellH (later_at HB5.out HXB.out) 0
  have y1 := cellH (later_at HB5.out HXB.out) 1
  simp at x0 x1 y0 y1
  have HJN := Lib.hid (fun W : World => refjoin_is la sa lb sb W)
  rw [acc_or HSA.out HSB.out] at HJN
  go_upto_region 7 with fail
  go_wp2_with fail
  refine (HJN.out _).mono ?_
  rintro e w6 ⟨rfl, hb6⟩
  have HB6 := Lib.hid (below_step HB5.out hb6)
  have HR6 := Lib.hid (HR5.out.later hb6)
  have HN6 := Lib.hid (HN5.out.later hb6)
  clear hb6 x0 x1 y0 y1 HN5 HR5
  have hvot := HM.out.voters (q : Int) (mxI la lb) (orS sa sb) (orS_set HSA.out HSB.out) HR6.out HG.out
  have hvl2 := votersL_len (n := n) (m := m) (lv := lv) (st := st) (pt := pt) (al := al) (au := au) (q : Int) (mxI la lb) (orS sa sb)
  have hup := voters_up HG.out (q : Int) (l := la) (l2 := lb) HSA.out HSB.out
  rw [← HVS.out] at hup
  obtain ⟨us, hus⟩ : ∃ us, us = votersL n m lv st pt al au (q : Int) (mxI la lb) (orS sa sb) := ⟨_, rfl⟩
  rw [← hus] at hvot hvl2 hup
  have HVO := Lib.hid hvot
  clear hvot hus
  go_wp2_with fail
  refine HVO.out.mono ?_
  rintro e w7 ⟨⟨UB, ub, rfl, _⟩, hb7⟩
  have HB7 := Lib.hid (below_step HB6.out hb7)
  have HN7 := Lib.hid (HN6.out.later hb7)
  clear hb7 HN6 HR6 HVO
  have x0 := cellH (later_at HB7.out HXA.out) 0
  have x1 := cellH (later_at HB7.out HXA.out) 1
  simp at x0 x1
  have hrv := refvoters_is (cl := cl) (d := d) (HLA.out.later HB7.out) (HPE.out.later HB7.out) HG.out (q : Int) la sa HSA.out
  rw [← HVS.out] at hrv
  have HRV := Lib.hid hrv
  have h1 : (vs.length : Int) ≤ (us.length : Int) := by omega
  clear hrv
  go_upto_region 8 with fail
  go_wp2_with fail
  refine HRV.out.mono ?_
  rintro e w8 ⟨⟨XB, xb, rfl, hxN⟩, hb8⟩
  have HB8 := Lib.hid (below_step HB7.out hb8)
  have HSM := Lib.hid (samen_is (c := vb) (d := xb) (HN7.out.later hb8) hxN (by omega))
  clear hb8 hxN x0 x1
  go_wp2_with fail
  refine HSM.out.mono ?_
  rintro e w9 ⟨rfl, hb9⟩
  have HB9 := Lib.hid (below_step HB8.out hb9)
  clear hb9
  have x0 := cellH (later_at HB9.out HXA.out) 0
  have x1 := cellH (later_at HB9.out HXA.out) 1
  simp at x0 x1
  go_wp2_with fail
  refine (HM.out.votersNo _ _ _).mono ?_
  rintro e w10 ⟨⟨YB, yb, rfl⟩, hb10⟩
  have HB10 := Lib.hid (below_step HB9.out hb10)
  clear hb10 x0 x1
  go_wp2_with fail
  refine (HM.out.checkNo _).mono ?_
  rintro e w11 ⟨hb11, hx | ⟨F, a, x, rfl, hF⟩⟩
  · exact hx.2.elim
  · have HB11 := Lib.hid (below_step HB10.out hb11)
    clear hb11 hF
    unfold fltV
    go_wp2_with fail
    go_ret
    exact ⟨by first | rfl | simp, below_step HB0.out HB11.out⟩
end Go.Proofs.YtcddbpdebklhnaaGreatDoor
