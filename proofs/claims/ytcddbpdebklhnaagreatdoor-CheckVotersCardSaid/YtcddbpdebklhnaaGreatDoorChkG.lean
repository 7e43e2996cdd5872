/-
  CheckGates over the bundle. No conditions but how the arguments lie.
-/
import Derived.Test.YtcddbpdebklhnaaGreatDoorChkP
import Derived.Test.YtcddbpdebklhnaaGreatDoorOrdF
import Derived.Test.YtcddbpdebklhnaaGreatDoorPhaseB
import Derived.WalkKit
import Derived.Carry
namespace Go.Proofs.YtcddbpdebklhnaaGreatDoor
open Go.RowKit

section
variable {n m : Nat} {lv st pt al au : Nat → Int}
/-- Where all lies in a round. -/
structure GtS (w0 : World) (A : Option Addr) (ts : List TkI) (L : Option Addr) (nl : Nat) (lv st : Nat → Int) (B : Option Addr) (m : Nat) (pt al au : Nat → Int) (R : Nat) (T : Option Addr) (W : World) : Prop where
  tasks : TksI W A ts
  labs : LabsAt W L nl lv st
  peps : PepsAt W B m pt al au
  ros : RosAt W R nl m lv st pt al au
  tgt : NumsAt W T (ts.map (targetI nl lv st))
  low : Below w0.heap.size w0 W
theorem GtS.later {w0 : World} {A L B T : Option Addr} {ts : List TkI} {R : Nat} {W W' : World} (h : GtS w0 A ts L n lv st B m pt al au R T W) (hb : Below W.heap.size W W') : GtS w0 A ts L n lv st B m pt al au R T W' :=
  ⟨h.tasks.later hb, h.labs.later hb, h.peps.later hb, h.ros.later hb, h.tgt.later hb, below_step h.low hb⟩
end
set_option maxHeartbeats 4000000 in
set_option maxRecDepth 100000 in
theorem checkgates_true (hM : CheckOk) {V : World → Prop} (hW : ∀ w : World, V w → Calls Tryz.prog 5 #[] w fun e w' => e = .returned (.bool true) ∧ Below w.heap.size w w') (hVL : ∀ w w' : World, V w → Below w.heap.size w w' → V w')
    {w : World} {A : Option Addr} {c : Nat} {nm : ByteArray} {ts : List TkI} {L B : Option Addr} {n m cl d : Nat} {lv st pt al au : Nat → Int} (part : Int) (hV : V w)
    (hA : TksI w A ts) (hc : ts.length ≤ c) (hL : ts.length ≤ 9223372036854775807) (hS : ∀ t ∈ ts, 0 ≤ t.st ∧ t.st ≤ 65535) (hl : LabsAt w L n lv st) (hlc : n ≤ cl) (hln : L = none → n = 0) (hls : ∀ i, i < n → SetN (st i)) (hp : PepsAt w B m pt al au) (hpn : B = none → m = 0) (hps : ∀ i, i < m → SetN (au i)) :
    Calls Tryz.prog 3 #[.agg #[.string nm, .slice A ts.length c], .slice L n cl, .slice B m d, .int .i64 part] w fun e w' => e = .returned (.bool true) ∧ Below w.heap.size w w' := by
  have b1 := (Below.refl w.heap.size w).alloc (Nat.le_refl _) (.cells #[.string nm, .slice A ts.length c] 24)
  have HX := Lib.hid (made_at w (.cells #[.string nm, .slice A ts.length c] 24))
  have HM := Lib.hid hM
  have HW := Lib.hid hW
  have HVL := Lib.hid hVL
  have HC := Lib.hid hc
  have HL := Lib.hid hL
  have HS := Lib.hid hS
  have HLC := Lib.hid hlc
  have HLN := Lib.hid hln
  have HLS := Lib.hid hls
  have HPN := Lib.hid hpn
  have HPS := Lib.hid hps
  have HA := Lib.hid (hA.later b1)
  have HLA := Lib.hid (hl.later b1)
  have HPE := Lib.hid (hp.later b1)
  have HV := Lib.hid (hVL _ _ hV b1)
  have HB0 := Lib.hid b1
  clear b1 hA hc hL hS hl hlc hln hls hp hpn hps hV hM hW hVL
  go_enter Tryz.func3, Tryz.ntmps3
  go_upto_region 1 with fail
  generalize hW0 : (w.alloc (.cells #[.string nm, .slice A ts.length c] 24)) = W0 at *
  clear hW0
  go_wp2_with fail
  refine (HW.out _ HV.out).mono ?_
  rintro e w1 ⟨rfl, hb1⟩
  have HX1 := Lib.hid (later_at hb1 HX.out)
  have HB1 := Lib.hid hb1
  have x0 := cellH HX1.out 0
  have x1 := cellH HX1.out 1
  simp at x0 x1
  clear hb1 HX
  go_wp2_with fail
  refine (reffew_is (HA.out.later HB1.out) HL.out).mono ?_
  rintro e w2 ⟨⟨b, rfl, hf⟩, hb2⟩
  have HB2 := Lib.hid (below_step HB1.out hb2)
  have HX2 := Lib.hid (later_at hb2 HX1.out)
  clear x0 x1 hb2 HX1 HB1
  cases b
  case false =>
    clear hf
    go_wp2_with fail
    refine (HW.out _ (HVL.out _ _ HV.out HB2.out)).mono ?_
    rintro e w3 ⟨rfl, hb3⟩
    have HB3 := Lib.hid (below_step HB2.out hb3)
    clear hb3
    go_wp2_with fail
    go_ret
    exact ⟨rfl, below_step HB0.out HB3.out⟩
  case true =>
  have HF := Lib.hid (hf rfl)
  clear hf
  obtain ⟨fv, hfv⟩ : ∃ fv, fv = faultV n m lv st pt al := ⟨_, rfl⟩
  have hnew0 := refnew_is (c := cl) (d := d) (HLA.out.later HB2.out) (HPE.out.later HB2.out)
  rw [← hfv] at hnew0
  have HN0 := Lib.hid hnew0
  have HFV := Lib.hid hfv
  clear hnew0 hfv
  go_wp2_with fail
  refine HN0.out.mono ?_
  rintro e w3 ⟨rfl, hb3⟩
  have HB3 := Lib.hid (below_step HB2.out hb3)
  have HX3 := Lib.hid (later_at hb3 HX2.out)
  clear hb3 HX2 HB2 HN0
  by_cases hf0 : fv = 0
  case neg =>
    have n1 : (fv != 0) = true := bne_iff_ne.2 hf0
    clear hf0
    go_wp2_with fail
    refine (HW.out _ (HVL.out _ _ HV.out HB3.out)).mono ?_
    rintro e w4 ⟨rfl, hb4⟩
    have HB4 := Lib.hid (below_step HB3.out hb4)
    clear hb4
    go_wp2_with fail
    go_ret
    exact ⟨rfl, below_step HB0.out HB4.out⟩
  case pos =>
  subst hf0
  have HG := Lib.hid (good_of HFV.out.symm HLS.out HPS.out)
  have hnew := new_is (d := d) (HLA.out.later HB3.out) (HPE.out.later HB3.out) HLC.out HLN.out HPN.out
  have HNW := Lib.hid hnew
  clear hnew
  go_wp2_with fail
  refine HNW.out.mono ?_
  rintro e w4 ⟨hb4, hout⟩
  obtain ⟨R, rfl, hR⟩ : ∃ R, e = .returned (.tuple #[.pointer (some ⟨R, 0, none⟩), .int .i64 0]) ∧ RosAt w4 R n m lv st pt al au := by
    rcases hout with ⟨h, _⟩ | ⟨_, h⟩
    · exact absurd HFV.out.symm h
    · exact h
  have HB4 := Lib.hid (below_step HB3.out hb4)
  have HX4 := Lib.hid (later_at hb4 HX3.out)
  have HR := Lib.hid hR
  clear hb4 hout hR HNW HX3 HB3
  have x0 := cellH HX4.out 0
  have x1 := cellH HX4.out 1
  simp at x0 x1
  go_upto_region 4 with fail
  go_wp2_with fail
  refine (HM.out.check part (HA.out.later HB4.out) HC.out HF.out HS.out HR.out HG.out).mono ?_
  rintro e w5 ⟨hb5, hout⟩
  have HB5 := Lib.hid (below_step HB4.out hb5)
  have HX5 := Lib.hid (later_at hb5 HX4.out)
  have HR5 := Lib.hid (HR.out.later hb5)
  have HOUT := Lib.hid hout
  clear hb5 hout x0 x1 HX4 HB4 HR
  rcases HOUT.out with ⟨rfl, hfit⟩ | ⟨F, a, x, rfl, hF⟩
  case inr =>
    unfold fltV
    go_wp2_with fail
    go_ret
    exact ⟨rfl, below_step HB0.out HB5.out⟩
  case inl =>
  have HFT := Lib.hid hfit
  clear hfit HOUT
  have x0 := cellH HX5.out 0
  have x1 := cellH HX5.out 1
  simp at x0 x1
  go_upto_region 6 with fail
  go_wp2_with fail
  refine (HM.out.targets (HA.out.later HB5.out) HC.out HFT.out.1 HS.out HR5.out HG.out).mono ?_
  rintro e w6 ⟨⟨T, tc, rfl, hT⟩, hb6⟩
  have HX6 := Lib.hid (later_at hb6 HX5.out)
  have HGT := Lib.hid (show GtS W0 A ts L n lv st B m pt al au R T w6 from ⟨(HA.out.later HB5.out).later hb6, (HLA.out.later HB5.out).later hb6, (HPE.out.later HB5.out).later hb6, HR5.out.later hb6, hT, below_step HB5.out hb6⟩)
  clear x0 x1 hT hb6 HX5 HB5 HR5
  have x1 := cellH HX6.out 1
  simp at x1
  have hml : (ts.map (targetI n lv st)).length = ts.length := List.length_map _
  rw [hml]
  obtain ⟨q, hq, hqp⟩ := there_nat HFT.out.2.1
  have h8 : ts.length ≤ 8 := HFT.out.1.few.2
  have hm12 : m ≤ 12 := HG.out.len.2.2
  subst hqp
  go_wp2_with fail
  clear x1
  go_loopw [48] (fun i wr => ∃ k : Nat, i = .int .i64 k ∧ k ≤ ts.length ∧ Hid (Below w6.heap.size w6 wr)) (fun i _ => ts.length - (intOf i).toNat)
  case atStart => exact ⟨0, rfl, Nat.zero_le _, Lib.hid (Below.refl _ _)⟩
  case round =>
    obtain ⟨k, rfl, hk, HBR⟩ := hrel
    by_cases hlt : k < ts.length
    · obtain ⟨t, ht⟩ : ∃ t, ts[k]? = some t := ⟨_, List.getElem?_eq_getElem hlt⟩
      have HGR := Lib.hid (HGT.out.later HBR.out)
      obtain ⟨pa, B1, c1, rfl, p0, pj, _, _⟩ := HGR.out.tasks.at_ ht
      have p1 := pj 1 _ rfl
      have p2 := pj 2 _ rfl
      have p3 := pj 3 _ rfl
      have p4 := pj 4 _ rfl
      have p5 := pj 5 _ rfl
      have p6 := pj 6 _ rfl
      have HFI := Lib.hid (HFT.out.2.2 t (List.mem_of_getElem? ht))
      have HTS := Lib.hid (HS.out t (List.mem_of_getElem? ht))
      have HTG := Lib.hid (show (ts.map (targetI n lv st))[k]? = some (targetI n lv st t) by rw [List.getElem?_map, ht]; rfl)
      have hk0 : (0 : Int) ≤ (k : Int) := by omega
      have hkl : (k : Int) < (ts.length : Int) := by omega
      clear pj ht
      go_upto_region 10 with fail
      have hbc := (Below.refl wr.heap.size wr).alloc (Nat.le_refl _) (.cells (tkiA t B1 c1) 43)
      have HXC := Lib.hid (made_at wr (.cells (tkiA t B1 c1) 43))
      have HBC := Lib.hid (below_step HBR.out hbc)
      have HGC := Lib.hid (HGR.out.later hbc)
      clear hbc p0 p1 p2 p3 p4 p5 p6 HGR
      obtain ⟨g, hg⟩ : ∃ g, g = wr.heap.size := ⟨_, rfl⟩
      rw [← hg] at HXC
      generalize hWC : (wr.alloc (.cells (tkiA t B1 c1) 43)) = W1 at *
      clear hWC
      have p4 := cellH HXC.out 4
      simp at p4
      rw [← hg]
      clear hg
      by_cases hn0 : t.need = 0
      · have n1 : (t.need == 0) = true := beq_iff_eq.2 hn0
        clear hn0
        go_wp2_with fail
        go_roundw
        case rel => exact ⟨k + 1, by go_num, by omega, HBC⟩
        case measure => simp [intOf]; omega
      · have n1 : (t.need == 0) = false := beq_eq_false_iff_ne.2 hn0
        have HN := Lib.hid hn0
        clear hn0
        obtain ⟨j, hjn, hgj, hjl, hjs⟩ := goalL_at (HFI.out.goal HN.out)
        have htj : targetI n lv st t = (j : Int) := by unfold targetI; rw [if_neg HN.out]; exact hgj
        obtain ⟨td, rfl, z0⟩ := HGC.out.tgt.at_ HTG.out
        rw [htj] at z0
        have hal := HFI.out.one HN.out
        have z1 := cellH HXC.out 1
        simp [hal] at z1
        obtain ⟨ld, rfl, z2, z3⟩ := HGC.out.labs.at_ hq
        obtain ⟨ld2, e2, z4, z5⟩ := HGC.out.labs.at_ hjn
        obtain rfl : ld = ld2 := by injection e2
        have hle := HFI.out.down HN.out
        rw [← hjl, ← hjs] at hle
        have hle2 : leqB (lv q) (st q) (lv j) (st j) = false := hle
        have HLE := Lib.hid hle2
        have hsq := Lib.hid (HLS.out q hq)
        have hsj := Lib.hid (HLS.out j hjn)
        have HGJ := Lib.hid hgj
        have HJN := Lib.hid hjn
        have HJ := Lib.hid (show lv j = t.lv ∧ st j = t.st from ⟨hjl, hjs⟩)
        obtain ⟨S, hS0, hSk, f0, f1, f2, f3, f4, f5, hSe⟩ : ∃ S : World → Prop, S W1.drew ∧ (∀ v v', S v → Below v.heap.size v v' → S v') ∧ (∀ x : HeldW S, x.w.cell? (td.add k) = some (.int .i64 (j : Int))) ∧ (∀ x : HeldW S, x.w.cell? ⟨g, 1, none⟩ = some (.slice B1 1 c1)) ∧
            (∀ x : HeldW S, x.w.cell? (ld.add (q * 2)) = some (.int .i64 (lv q))) ∧ (∀ x : HeldW S, x.w.cell? ⟨(ld.add (q * 2)).block, (ld.add (q * 2)).off + 1, none⟩ = some (.int .u16 (st q))) ∧
            (∀ x : HeldW S, x.w.cell? (ld.add (j * 2)) = some (.int .i64 (lv j))) ∧ (∀ x : HeldW S, x.w.cell? ⟨(ld.add (j * 2)).block, (ld.add (j * 2)).off + 1, none⟩ = some (.int .u16 (st j))) ∧ (∀ v, S v → Below W1.heap.size W1 v) :=
          ⟨HoldS W1 [(td.add k, .int .i64 (j : Int)), (⟨g, 1, none⟩, .slice B1 1 c1), (ld.add (q * 2), .int .i64 (lv q)), (⟨(ld.add (q * 2)).block, (ld.add (q * 2)).off + 1, none⟩, .int .u16 (st q)), (ld.add (j * 2), .int .i64 (lv j)), (⟨(ld.add (j * 2)).block, (ld.add (j * 2)).off + 1, none⟩, .int .u16 (st j))] (fun _ => True),
            ⟨cc z0 (cc z1 (cc z2 (cc z3 (cc z4 (cc z5 cn))))), True.intro, (Below.refl _ _).drew⟩, HoldS.keep keepTrue, fun x => x.at_ 0 rfl, fun x => x.at_ 1 rfl, fun x => x.at_ 2 rfl, fun x => x.at_ 3 rfl, fun x => x.at_ 4 rfl, fun x => x.at_ 5 rfl, fun v h => h.2.2⟩
        have HS0 := Lib.hid hS0
        have HSK := Lib.hid hSk
        have HSE := Lib.hid hSe
        have hj0 : (0 : Int) ≤ (j : Int) := by omega
        have hj1 : ¬ (j : Int) < 0 := by omega
        have hjn1 : (j : Int) < (n : Int) := by omega
        have hq0 : (0 : Int) ≤ (q : Int) := by omega
        have hqn1 : (q : Int) < (n : Int) := by omega
        clear z0 z1 z2 z3 z4 z5 e2 hle hle2 hS0 hSk hSe hgj htj hal hjl hjs
        go_upto_region 11 with fail
        clear p4
        refine wp_region_kept S (by kernel_rfl) (by kernel_rfl) HS0.out ?_
        intro hne
        repeat (go_big_quiet_step (first | exact rfl | (go_at_call 11; refine kept_of HSK.out (refleq_is _ _ _ _ hsq.out hsj.out _ HLE.out _))))
        refine wpQuiet_nil ?_
        rintro w7 ⟨⟨_, hq7⟩, rfl⟩
        clear f0 f1 f2 f3 f4 f5 hne
        have hb7 := HSE.out _ hq7
        have HX7 := Lib.hid (later_at hb7 HXC.out)
        have HG7 := Lib.hid (HGC.out.later hb7)
        have HB7 := Lib.hid (below_step HBC.out hb7)
        clear hq7 hb7 HSE HSK HS0 HGC HXC HBC
        have p4 := cellH HX7.out 4
        have p5 := cellH HX7.out 5
        have p6 := cellH HX7.out 6
        simp at p4 p5 p6
        have hvot := HM.out.voters (q : Int) t.lv t.st ⟨HTS.out.1, by have := HTS.out.2; omega⟩ HG7.out.ros HG.out
        have hvn := HFI.out.votes HN.out
        have hvl := votersL_len (n := n) (m := m) (lv := lv) (st := st) (pt := pt) (al := al) (au := au) (q : Int) t.lv t.st
        obtain ⟨vs, hvs⟩ : ∃ vs, vs = votersL n m lv st pt al au (q : Int) t.lv t.st := ⟨_, rfl⟩
        rw [← hvs] at hvot hvn hvl
        have HVO := Lib.hid hvot
        have HVS := Lib.hid hvs
        have hvn2 : ¬ (vs.length : Int) < t.need := by omega
        clear hvot hvs hvn
        go_wp2_with fail
        refine HVO.out.mono ?_
        rintro e w8 ⟨⟨VB, vb, rfl, hvN⟩, hb8⟩
        have HX8 := Lib.hid (later_at hb8 HX7.out)
        have HG8 := Lib.hid (HG7.out.later hb8)
        have HB8 := Lib.hid (below_step HB7.out hb8)
        have HVN := Lib.hid hvN
        clear p4 p5 p6 hvN hb8 HX7 HG7 HB7 HVO
        have p4 := cellH HX8.out 4
        simp at p4
        have hvl12 : vs.length ≤ 12 := by omega
        go_wp2_with fail
        clear p4
        go_loopw [93] (fun i wr => ∃ k : Nat, i = .int .i64 k ∧ k ≤ vs.length ∧ Hid (Below w8.heap.size w8 wr)) (fun i _ => vs.length - (intOf i).toNat)
        case atStart => exact ⟨0, rfl, Nat.zero_le _, Lib.hid (Below.refl _ _)⟩
        case round =>
          obtain ⟨k2, rfl, hk2, HBV⟩ := hrel
          by_cases hlt2 : k2 < vs.length
          · obtain ⟨who, hwho⟩ : ∃ who, vs[k2]? = some who := ⟨_, List.getElem?_eq_getElem hlt2⟩
            have HG9 := Lib.hid (HG8.out.later HBV.out)
            obtain ⟨vd, rfl, zv⟩ := (HVN.out.later HBV.out).at_ hwho
            have hmem : who ∈ votersL n m lv st pt al au (q : Int) t.lv t.st := by rw [← HVS.out]; exact List.mem_of_getElem? hwho
            obtain ⟨hwm, hwp, _⟩ := votersL_has hmem
            have hmay := voter_may hq hmem
            rw [← HJ.out.1, ← HJ.out.2] at hmay
            have HMAY := Lib.hid hmay
            obtain ⟨bd, rfl, y0, y1, y2⟩ := HG9.out.peps.at_ hwm
            rw [hwp] at y0
            obtain ⟨td2, et, z0⟩ := HG9.out.tgt.at_ HTG.out
            obtain rfl : td = td2 := by injection et
            have htj : targetI n lv st t = (j : Int) := by
              unfold targetI
              rw [if_neg HN.out]
              exact HGJ.out
            rw [htj] at z0
            obtain ⟨ld2, e2, z2, z3⟩ := HG9.out.labs.at_ hq
            obtain rfl : ld = ld2 := by injection e2
            obtain ⟨ld2, e2, z4, z5⟩ := HG9.out.labs.at_ HJN.out
            obtain rfl : ld = ld2 := by injection e2
            have hau := Lib.hid (HPS.out who hwm)
            have hof := Lib.hid (offS_set hsq.out hsj.out)
            obtain ⟨S, hS0, hSk, f0, f1, f2, f3, f4, f5, f6, f7, hSe⟩ : ∃ S : World → Prop, S wr.drew ∧ (∀ v v', S v → Below v.heap.size v v' → S v') ∧ (∀ x : HeldW S, x.w.cell? (td.add k) = some (.int .i64 (j : Int))) ∧
                (∀ x : HeldW S, x.w.cell? (ld.add (q * 2)) = some (.int .i64 (lv q))) ∧ (∀ x : HeldW S, x.w.cell? ⟨(ld.add (q * 2)).block, (ld.add (q * 2)).off + 1, none⟩ = some (.int .u16 (st q))) ∧
                (∀ x : HeldW S, x.w.cell? (ld.add (j * 2)) = some (.int .i64 (lv j))) ∧ (∀ x : HeldW S, x.w.cell? ⟨(ld.add (j * 2)).block, (ld.add (j * 2)).off + 1, none⟩ = some (.int .u16 (st j))) ∧
                (∀ x : HeldW S, x.w.cell? (bd.add (who * 3)) = some (.int .i64 (q : Int))) ∧ (∀ x : HeldW S, x.w.cell? ⟨(bd.add (who * 3)).block, (bd.add (who * 3)).off + 1, none⟩ = some (.int .i64 (al who))) ∧ (∀ x : HeldW S, x.w.cell? ⟨(bd.add (who * 3)).block, (bd.add (who * 3)).off + 1 + 1, none⟩ = some (.int .u16 (au who))) ∧ (∀ v, S v → Below wr.heap.size wr v) :=
              ⟨HoldS wr [(td.add k, .int .i64 (j : Int)), (ld.add (q * 2), .int .i64 (lv q)), (⟨(ld.add (q * 2)).block, (ld.add (q * 2)).off + 1, none⟩, .int .u16 (st q)), (ld.add (j * 2), .int .i64 (lv j)), (⟨(ld.add (j * 2)).block, (ld.add (j * 2)).off + 1, none⟩, .int .u16 (st j)), (bd.add (who * 3), .int .i64 (q : Int)), (⟨(bd.add (who * 3)).block, (bd.add (who * 3)).off + 1, none⟩, .int .i64 (al who)), (⟨(bd.add (who * 3)).block, (bd.add (who * 3)).off + 1 + 1, none⟩, .int .u16 (au who))] (fun _ => True),
                ⟨cc z0 (cc z2 (cc z3 (cc z4 (cc z5 (cc y0 (cc y1 (cc y2 cn))))))), True.intro, (Below.refl _ _).drew⟩, HoldS.keep keepTrue, fun x => x.at_ 0 rfl, fun x => x.at_ 1 rfl, fun x => x.at_ 2 rfl, fun x => x.at_ 3 rfl, fun x => x.at_ 4 rfl, fun x => x.at_ 5 rfl, fun x => x.at_ 6 rfl, fun x => x.at_ 7 rfl, fun v h => h.2.2⟩
            have HS0 := Lib.hid hS0
            have HSK := Lib.hid hSk
            have HSE := Lib.hid hSe
            have hk20 : (0 : Int) ≤ (k2 : Int) := by omega
            have hk2l : (k2 : Int) < (vs.length : Int) := by omega
            have hw0 : (0 : Int) ≤ (who : Int) := by omega
            have hwm1 : (who : Int) < (m : Int) := by omega
            have hqq : ((q : Int) != (q : Int)) = false := bne_self_eq_false _
            clear z0 z2 z3 z4 z5 y0 y1 y2 e2 et hmay hS0 hSk hSe htj hwp hmem hwho
            go_upto_region 19 with fail
            clear zv
            refine wp_region_kept S (by kernel_rfl) (by kernel_rfl) HS0.out ?_
            intro hne
            repeat (go_big_quiet_step (first | exact rfl | (go_at_call 11; refine kept_of HSK.out (refleq_is _ _ _ _ hof.out hau.out _ HMAY.out _)) | (go_at_call 13; refine kept_of HSK.out (refoff_set _ _ _ _ hsq.out hsj.out _))))
            refine wpQuiet_nil ?_
            rintro w9 ⟨⟨_, hq9⟩, rfl⟩
            clear f0 f1 f2 f3 f4 f5 f6 f7 hne
            have HB9 := Lib.hid (below_step HBV.out (HSE.out _ hq9))
            clear hq9
            go_wp2_with fail
            go_roundw
            case rel => exact ⟨k2 + 1, by go_num, by omega, HB9⟩
            case measure => simp [intOf]; omega
          · obtain rfl : k2 = vs.length := by omega
            have hlk2 : ¬ (vs.length : Int) < (vs.length : Int) := by omega
            go_wp2_with fail
            go_roundw
            case rel => exact ⟨k + 1, by go_num, by omega, Lib.hid (below_step HB8.out HBV.out)⟩
            case measure => simp [intOf]; omega
    · obtain rfl : k = ts.length := by omega
      have hlk : ¬ (ts.length : Int) < (ts.length : Int) := by omega
      go_wp2_with fail
      go_ret
      exact ⟨rfl, below_step HB0.out (below_step HGT.out.low HBR.out)⟩
end Go.Proofs.YtcddbpdebklhnaaGreatDoor
