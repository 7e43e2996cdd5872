/-
  The program's fault, isGate and Voters of check, of a roster that there is and of one that is none. No conditions but how the roster lies. The program's wrong: what is wrong with a gate in a partition. No conditions but how all lies.
-/
import Derived.Test.YtcddbpdebklhnaaGreatDoorChkV
import Derived.Test.YtcddbpdebklhnaaGreatDoorRosterL
namespace Go.Proofs.YtcddbpdebklhnaaGreatDoor
open Go.RowKit

theorem cfault_is (w : World) (a e : Int) : Calls Tryz.prog 23 #[.int .i64 a, .int .i64 e] w fun x w' => ∃ F, x = .returned (fltV F) ∧ FaultAt w' F a e ∧ w.heap.size ≤ F ∧ Below w.heap.size w w' := by
  go_enter Tryz.func23, Tryz.ntmps23
  go_wp2_with fail
  go_ret
  exact ⟨_, rfl, made_at _ _, Nat.le_refl _, (Below.refl _ _).alloc (Nat.le_refl _) _⟩
theorem cisgate_is (w : World) (n : ByteArray) (A : Value) (r t need lv st : Int) : Calls Tryz.prog 25 #[.agg #[.string n, A, .int .i64 r, .int .i64 t, .int .i64 need, .int .i64 lv, .int .u16 st]] w fun e w' => e = .returned (.bool (need != 0)) ∧ Below w.heap.size w w' := by
  go_enter Tryz.func25, Tryz.ntmps25
  have z := made_at w (.cells #[.string n, A, .int .i64 r, .int .i64 t, .int .i64 need, .int .i64 lv, .int .u16 st] 43)
  have z4 := cellH z 4
  simp at z4
  go_wp2_with fail
  go_ret
  exact ⟨rfl, (Below.refl _ _).alloc (Nat.le_refl _) _⟩
set_option maxHeartbeats 2000000 in
set_option maxRecDepth 100000 in
theorem cvoters_is {w : World} {R n m : Nat} {lv st pt al au : Nat → Int} (part l s : Int) (hR : RosAt w R n m lv st pt al au) :
    Calls Tryz.prog 12 #[.pointer (some ⟨R, 0, none⟩), .int .i64 part, .agg #[.int .i64 l, .int .u16 s]] w fun e w' => (∃ V v, e = .returned (.slice V (votersL n m lv st pt al au part l s).length v) ∧ NatsAt w' V (votersL n m lv st pt al au part l s)) ∧ Below w.heap.size w w' := by
  have b0 := (Below.refl w.heap.size w).alloc (Nat.le_refl _) (.cells #[.int .i64 l, .int .u16 s] 41)
  have HX := Lib.hid (made_at w (.cells #[.int .i64 l, .int .u16 s] 41))
  have HR := Lib.hid (hR.later b0)
  have HB0 := Lib.hid b0
  have h12 : m ≤ 12 := by obtain ⟨_, _, _, _, _, _, _, _, _, h⟩ := hR; exact h
  clear b0 hR
  obtain ⟨i0, hi, hz0, hz1, hz2⟩ := info_all info_int
  have hall : votersL n m lv st pt al au part l s = votersK n m lv st pt al au part l s m := rfl
  rw [hall]
  clear hall
  go_enter Tryz.func12, Tryz.ntmps12
  go_upto_region 1 with fail
  generalize hW0 : (w.alloc (.cells #[.int .i64 l, .int .u16 s] 41)) = W0 at *
  clear hW0
  go_wp2_with fail
  refine (people_is HR.out).mono ?_
  rintro e w1 ⟨rfl, rfl⟩
  go_wp2_with fail
  go_loopw [7, 11] (fun v i wr => ∃ k : Nat, i = .int .i64 k ∧ k ≤ m ∧ Hid (wr.ownsRow W0.heap.size 3 1 v (votersK n m lv st pt al au part l s k).length (natV (votersK n m lv st pt al au part l s k))) ∧ Hid (Below W0.heap.size W0 wr)) (fun _ i _ => m - (intOf i).toNat)
  case atStart => exact ⟨0, rfl, Nat.zero_le _, Lib.hid (World.ownsRow_nil _ _ _ _), Lib.hid (Below.refl _ _)⟩
  case round =>
    obtain ⟨k, rfl, hk, HO, HB⟩ := hrel
    by_cases hlt : k < m
    · have x0 := cellH (later_at HB.out HX.out) 0
      have x1 := cellH (later_at HB.out HX.out) 1
      simp at x0 x1
      have HNX := Lib.hid (votersK_next (n := n) (m := m) (lv := lv) (st := st) (pt := pt) (al := al) (au := au) part l s k)
      have HLN := Lib.hid (votersK_len (n := n) (m := m) (lv := lv) (st := st) (pt := pt) (al := al) (au := au) part l s k)
      have hmay := rmay_is (HR.out.later HB.out) (k : Int) l s
      have hpart := part_is (HR.out.later HB.out) (k : Int)
      rw [show partV m pt (k : Int) = pt k by simp [partV, there_of hlt]] at hpart
      have HPA := Lib.hid hpart
      obtain ⟨mb, hmb⟩ : ∃ mb, mb = mayB n m lv st pt al au (k : Int) l s := ⟨_, rfl⟩
      rw [← hmb] at hmay HNX
      have HMA := Lib.hid hmay
      have hkl : (k : Int) < (m : Int) := by omega
      clear hmay hmb hpart
      by_cases hpt : pt k = part
      · have n1 : (pt k == part) = true := beq_iff_eq.2 hpt
        have HPT := Lib.hid (decide_eq_true hpt)
        clear hpt
        cases mb with
        | false =>
          go_wp2_with (first | (go_at_call 31; refine HPA.out.mono ?_; rintro e w1 ⟨rfl, rfl⟩) | (go_at_call 32; refine HMA.out.mono ?_; rintro e w1 ⟨rfl, hb1⟩; have HB1 := Lib.hid (below_step HB.out hb1); have HO1 := Lib.hid (own_agree HO.out (fun q _ hq => hb1.block q hq)); clear hb1))
          go_roundw
          case rel => exact ⟨k + 1, by go_num, by omega, Lib.hid (by rw [HNX.out]; simpa using HO1.out), HB1⟩
          case measure => simp [intOf]; omega
        | true =>
          have hlen := HLN.out
          go_wp2_with (first
            | (go_at_call 31; refine HPA.out.mono ?_; rintro e w1 ⟨rfl, rfl⟩)
            | (go_at_call 32; refine HMA.out.mono ?_; rintro e w1 ⟨rfl, hb1⟩; have HB1 := Lib.hid (below_step HB.out hb1); have HO1 := Lib.hid (own_agree HO.out (fun q _ hq => hb1.block q hq)); have hsz := HB1.out.size; clear hb1)
            | (at_builtin; refine wpList_append_own _ rfl _ _ 37 rfl W0.heap.size 3 i0 _ 1 8 Tryz.underlying37 hi hz0 hz1 hz2 rfl (by omega) _ (votersK n m lv st pt al au part l s k).length (natV (votersK n m lv st pt al au part l s k)) rfl (HO1.out.alloc _) ⟨w1.heap.size, 0, none⟩ 1 1 [.int .i64 (k : Int)] rfl rfl (one_cell_new w1 _ _) (by simp [Value.oneCell']) (by unfold maxLen; omega) (by omega) (by simp; omega) ?_; intro v2 w2 hown2 hg2 _))
          have hB2 := (HB1.out.alloc hsz (.cells #[.int .i64 (k : Int)] 3)).grown hg2 (by simp; omega) (fun q hq => (own_tag HO1.out hq).1)
          go_roundw
          case rel => exact ⟨k + 1, by go_num, by omega, Lib.hid (by rw [HNX.out]; rw [if_pos (by rw [HPT.out]; rfl)]; simpa [natV] using hown2), Lib.hid hB2⟩
          case measure => simp [intOf]; omega
      · have n1 : (pt k == part) = false := beq_eq_false_iff_ne.2 hpt
        have HPT := Lib.hid (decide_eq_false hpt)
        clear hpt
        go_wp2_with (go_at_call 31; refine HPA.out.mono ?_; rintro e w1 ⟨rfl, rfl⟩)
        go_roundw
        case rel => exact ⟨k + 1, by go_num, by omega, Lib.hid (by rw [HNX.out]; rw [if_neg (by rw [HPT.out]; simp)]; simpa using HO.out), HB⟩
        case measure => simp [intOf]; omega
    · obtain rfl : k = m := by omega
      have hlk : ¬ (k : Int) < (k : Int) := by omega
      obtain ⟨A', c', rfl, hN, _⟩ := nats_own HO.out
      have HN := Lib.hid hN.nats
      clear hN
      go_wp2_with fail
      go_ret
      refine ⟨?_, below_step HB0.out HB.out⟩
      first | exact ⟨_, _, rfl, HN.out⟩ | exact ⟨_, ⟨_, rfl⟩, HN.out⟩
set_option maxHeartbeats 1000000 in
set_option maxRecDepth 100000 in
theorem cvoters_no {w : World} (part l s : Int) :
    Calls Tryz.prog 12 #[.pointer none, .int .i64 part, .agg #[.int .i64 l, .int .u16 s]] w fun e w' => (∃ B b, e = .returned (.slice B 0 b)) ∧ Below w.heap.size w w' := by
  go_enter Tryz.func12, Tryz.ntmps12
  go_wp2_with fail
  refine (people_nil _).mono ?_
  rintro e w1 ⟨rfl, rfl⟩
  go_wp2_with fail
  go_loopw [7, 11] (fun v i wr => v = .slice none 0 0 ∧ i = .int .i64 0 ∧ wr = w.alloc (.cells #[.int .i64 l, .int .u16 s] 41)) (fun _ _ _ => 0)
  case atStart => exact ⟨rfl, rfl, rfl⟩
  case round =>
    obtain ⟨rfl, rfl, rfl⟩ := hrel
    go_wp2_with fail
    go_ret
    exact ⟨⟨_, _, rfl⟩, (Below.refl _ _).alloc (Nat.le_refl _) _⟩
end Go.Proofs.YtcddbpdebklhnaaGreatDoor

namespace Go.Proofs.YtcddbpdebklhnaaGreatDoor
open Go.RowKit

theorem IntsAt.nums {w : World} {A : Option Addr} {l : List Int} (h : IntsAt w A l) : NumsAt w A l := fun h0 => by
  obtain ⟨ad, e, hc⟩ := h h0
  refine ⟨ad, e, fun i n hi => ?_⟩
  have hl := (List.getElem?_eq_some_iff.1 hi).1
  have h1 := hc i hl
  rw [List.getD_eq_getElem?_getD, hi] at h1
  exact h1
theorem has_ints {w : World} {A : Option Addr} {c : Nat} {l : List Int} (hA : IntsAt w A l) (hl : l.length ≤ 1000000) (x : Int) :
    Calls Tryz.prog 46 #[.slice A l.length c, .int .i64 x] w fun e w' => e = .returned (.bool (l.contains x)) ∧ w = w' := by
  by_cases h0 : 0 < l.length
  · obtain ⟨b, o, rfl, hc⟩ := hA.nums.flat h0
    refine (Tryz.slices_Contains_int b o l.length c l x w (by omega) (by omega) hc).mono ?_
    rintro e w1 ⟨rfl, rfl⟩
    exact ⟨by rw [List.take_length], rfl⟩
  · obtain rfl : l = [] := List.eq_nil_of_length_eq_zero (by omega)
    refine (Tryz.slices_Contains_int_empty A c x w).mono ?_
    rintro e w1 ⟨rfl, rfl⟩
    exact ⟨rfl, rfl⟩
section
variable (n m : Nat) (lv st pt al au : Nat → Int)
/-- What is wrong with a gate; 0: nothing. -/
def wrongV (p : Int) (t : TkI) : Int :=
  if t.after.length ≠ 1 then 3 else if goalL n lv st t.lv t.st < 0 then 9 else if (belowL (fun i => leqB (lv i) (st i) t.lv t.st) n).contains p = true then 9
  else if ((votersL n m lv st pt al au p t.lv t.st).length : Int) < t.need then 12 else 0
end
section
variable {R n m : Nat} {lv st pt al au : Nat → Int} {w : World}
theorem fit_of {p : Int} {t : TkI} (hp : thereB p n = true) (h : t.need ≠ 0 → wrongV n m lv st pt al au p t = 0) : FitT n m lv st pt al au p t := by
  obtain ⟨k, hk, rfl⟩ := there_nat hp
  have h' : t.need ≠ 0 → t.after.length = 1 ∧ 0 ≤ goalL n lv st t.lv t.st ∧ (belowL (fun i => leqB (lv i) (st i) t.lv t.st) n).contains (k : Int) = false ∧ t.need ≤ (votersL n m lv st pt al au k t.lv t.st).length := fun h0 => by
    have h1 := h h0
    unfold wrongV at h1
    split at h1
    · cases h1
    rename_i a1
    split at h1
    · cases h1
    rename_i a2
    split at h1
    · cases h1
    rename_i a3
    split at h1
    · cases h1
    rename_i a4
    exact ⟨by omega, by omega, by simpa using a3, by omega⟩
  refine ⟨fun h0 => (h' h0).1, fun h0 => (h' h0).2.1, fun h0 => ?_, fun h0 => (h' h0).2.2.2⟩
  have h3 := (h' h0).2.2.1
  rw [show ((k : Int)).toNat = k from Int.toNat_natCast k]
  cases hq : leqB (lv k) (st k) t.lv t.st with
  | false => rfl
  | true =>
    have hm : (k : Int) ∈ belowL (fun i => leqB (lv i) (st i) t.lv t.st) n := belowL_mem.2 ⟨k, hk, rfl, hq⟩
    rw [← List.contains_iff_mem, h3] at hm
    cases hm
set_option maxHeartbeats 4000000 in
set_option maxRecDepth 100000 in
theorem cwrong_is (hR : RosAt w R n m lv st pt al au) (t : TkI) (B : Option Addr) (c : Nat) (p : Int) :
    Calls Tryz.prog 26 #[.agg (tkiA t B c), .pointer (some ⟨R, 0, none⟩), .int .i64 p] w fun e w' => e = .returned (.int .i64 (wrongV n m lv st pt al au p t)) ∧ Below w.heap.size w w' := by
  obtain ⟨r, hr⟩ : ∃ r, r = wrongV n m lv st pt al au p t := ⟨_, rfl⟩
  rw [← hr]
  unfold wrongV at hr
  have b0 := (Below.refl w.heap.size w).alloc (Nat.le_refl _) (.cells (tkiA t B c) 43)
  have HX := Lib.hid (made_at w (.cells (tkiA t B c) 43))
  have HR := Lib.hid (hR.later b0)
  have HB0 := Lib.hid b0
  have h4 : n ≤ 4 := by obtain ⟨_, _, _, _, _, _, _, _, h, _⟩ := hR; exact h
  obtain ⟨gl, hgl⟩ : ∃ gl, gl = goalL n lv st t.lv t.st := ⟨_, rfl⟩
  have HF := Lib.hid (fun (W : World) (h : RosAt W R n m lv st pt al au) => show Calls Tryz.prog 28 #[.pointer (some ⟨R, 0, none⟩), .agg #[.int .i64 t.lv, .int .u16 t.st]] W (fun e w' => e = .returned (.int .i64 gl) ∧ Below W.heap.size W w') from by rw [hgl]; exact rfind_is h _ _)
  rw [← hgl] at hr
  obtain ⟨zs, hzs⟩ : ∃ zs, zs = belowL (fun i => leqB (lv i) (st i) t.lv t.st) n := ⟨_, rfl⟩
  have HZ := Lib.hid (fun (W : World) (h : RosAt W R n m lv st pt al au) => show Calls Tryz.prog 47 #[.pointer (some ⟨R, 0, none⟩), .agg #[.int .i64 t.lv, .int .u16 t.st]] W (IntsOut W zs) from by rw [hzs]; exact rbelow_is h _ _)
  have HZL := Lib.hid (show zs.length ≤ 1000000 from by rw [hzs]; have := belowL_len (fun i => leqB (lv i) (st i) t.lv t.st) n; omega)
  rw [← hzs] at hr
  obtain ⟨cb, hcb⟩ : ∃ cb, cb = zs.contains p := ⟨_, rfl⟩
  have HC := Lib.hid (fun (W : World) (A : Option Addr) (d : Nat) (h : IntsAt W A zs) => show Calls Tryz.prog 46 #[.slice A zs.length d, .int .i64 p] W (fun e w' => e = .returned (.bool cb) ∧ W = w') from by rw [hcb]; exact has_ints h HZL.out p)
  rw [← hcb] at hr
  obtain ⟨vl, hvl⟩ : ∃ vl, vl = votersL n m lv st pt al au p t.lv t.st := ⟨_, rfl⟩
  have HV := Lib.hid (fun (W : World) (h : RosAt W R n m lv st pt al au) => show Calls Tryz.prog 12 #[.pointer (some ⟨R, 0, none⟩), .int .i64 p, .agg #[.int .i64 t.lv, .int .u16 t.st]] W (fun e w' => (∃ V v, e = .returned (.slice V vl.length v) ∧ NatsAt w' V vl) ∧ Below W.heap.size W w') from by rw [hvl]; exact cvoters_is _ _ _ h)
  rw [← hvl] at hr
  have HRR := Lib.hid hr
  clear hr hgl hzs hcb hvl b0 hR h4
  go_enter Tryz.func26, Tryz.ntmps26
  go_upto_region 1 with fail
  generalize hW0 : (w.alloc (.cells (tkiA t B c) 43)) = W0 at *
  clear hW0
  have x1 := cellH HX.out 1
  simp at x1
  by_cases h1 : t.after.length = 1
  case neg =>
    have n1 : ((t.after.length : Int) != 1) = true := bne_iff_ne.2 (by omega)
    have HE := Lib.hid (show r = 3 by rw [HRR.out, if_pos h1])
    clear h1
    go_wp2_with fail
    go_ret
    exact ⟨by rw [HE.out]; rfl, HB0.out⟩
  have n1 : ((t.after.length : Int) != 1) = false := by rw [bne_eq_false_iff_eq]; omega
  have HR1 := Lib.hid (show r = _ from by rw [HRR.out, if_neg (by simp [h1])])
  clear h1 HRR
  have x5 := cellH HX.out 5
  have x6 := cellH HX.out 6
  simp at x5 x6
  go_wp2_with fail
  refine (HF.out _ HR.out).mono ?_
  rintro e w1 ⟨rfl, hb1⟩
  have HB1 := Lib.hid (below_step HB0.out hb1)
  have HX1 := Lib.hid (later_at hb1 HX.out)
  have HRa := Lib.hid (HR.out.later hb1)
  clear hb1 x1 x5 x6 n1 HX HR HB0
  by_cases h2 : gl < 0
  case pos =>
    have HE := Lib.hid (show r = 9 by rw [HR1.out, if_pos h2])
    go_wp2_with fail
    go_ret
    exact ⟨by rw [HE.out]; rfl, HB1.out⟩
  have HR2 := Lib.hid (show r = _ from by rw [HR1.out, if_neg h2])
  clear HR1
  have x5 := cellH HX1.out 5
  have x6 := cellH HX1.out 6
  simp at x5 x6
  go_wp2_with fail
  refine (HZ.out _ HRa.out).mono ?_
  rintro e w2 ⟨A2, c2, rfl, hi2, hb2⟩
  have HB2 := Lib.hid (below_step HB1.out hb2)
  have HX2 := Lib.hid (later_at hb2 HX1.out)
  have HRb := Lib.hid (HRa.out.later hb2)
  have HI2 := Lib.hid hi2
  clear hb2 hi2 x5 x6 HX1 HRa HB1 h2
  go_wp2_with fail
  refine (HC.out _ _ _ HI2.out).mono ?_
  rintro e w3 ⟨rfl, rfl⟩
  cases cb with
  | true =>
    have HE := Lib.hid (show r = 9 by rw [HR2.out, if_pos rfl])
    go_wp2_with fail
    go_ret
    exact ⟨by rw [HE.out]; rfl, HB2.out⟩
  | false =>
  have HR3 := Lib.hid (show r = _ from by rw [HR2.out, if_neg (by simp)])
  clear HR2
  go_upto_region 7 with fail
  have x4 := cellH HX2.out 4
  have x5 := cellH HX2.out 5
  have x6 := cellH HX2.out 6
  simp at x4 x5 x6
  obtain ⟨r2, hr2⟩ : ∃ r2, r2 = decide ((vl.length : Int) < t.need) := ⟨_, rfl⟩
  have HR4 := Lib.hid hr2
  clear hr2
  go_region_with (go_at_call 12; refine (HV.out _ (HRb.out.later ((Below.refl _ _).drew))).mono ?_; rintro e w4 ⟨⟨V, v, rfl, hv⟩, hb4⟩; have HX4 := Lib.hid (later_at (((Below.refl w2.heap.size w2).drew).trans hb4) HX2.out); have HB4 := Lib.hid (HB2.out.drew.trans (hb4.mono HB2.out.size)); clear x4 x5 x6 hv hb4; have x4 := cellH HX4.out 4; simp at x4)
  all_goals
    clear x4
    by_cases h4 : (vl.length : Int) < t.need
    · have HE := Lib.hid (show r = 12 by rw [HR3.out, if_pos h4])
      go_wp2_with fail
      go_ret
      exact ⟨by rw [HE.out]; rfl, HB4.out⟩
    · have HE := Lib.hid (show r = 0 by rw [HR3.out, if_neg h4])
      go_wp2_with fail
      go_ret
      exact ⟨by rw [HE.out]; rfl, HB4.out⟩
end
end Go.Proofs.YtcddbpdebklhnaaGreatDoor
