/-
  What the document's Right (package lockageref08) answers of a pipeline that may be. No conditions.
-/
import Derived.Test.YtpndjeccfdcjpaaManT
import Derived.Test.YtpndjeccfdcjpaaManN
import Derived.Test.YtpndjeccfdcjpaaLabelG
namespace Go.Proofs.Ytpndjeccfdcjpaa
open Go.RowKit

theorem name_call {s : ByteArray} (h : nameOk s) (w : World) : Calls Try.prog 14 #[.string s] w fun e w' => e = .returned (.bool true) ∧ w = w' := by
  have h2 := refname_is s (by have := h.2.1; omega) w
  have h3 : nameP s = true := decide_eq_true h
  rwa [h3] at h2
theorem nodup_ne {α : Type} {l : List α} (h : l.Nodup) {i j : Nat} {a b : α} (hi : l[i]? = some a) (hj : l[j]? = some b) (hij : i ≠ j) : a ≠ b := by
  rw [List.nodup_iff_pairwise_ne, List.pairwise_iff_getElem] at h
  obtain ⟨h1, rfl⟩ := List.getElem?_eq_some_iff.1 hi
  obtain ⟨h2, rfl⟩ := List.getElem?_eq_some_iff.1 hj
  rcases Nat.lt_or_gt_of_ne hij with h3 | h3
  · exact h i j h1 h2 h3
  · exact (h j i h2 h1 h3).symm
section
variable {w : World} {A : Option Addr} {c : Nat} {n : ByteArray} {ts : List TkP}
set_option maxHeartbeats 4000000 in
set_option maxRecDepth 100000 in
theorem refrightp_is (hA : TksAt w A ts) (hR : RightPi ⟨n, ts⟩) :
    Calls Try.prog 6 #[.agg #[.string n, .slice A ts.length c]] w fun e w' => e = .returned (.bool true) ∧ Below w.heap.size w w' := by
  have b1 := (Below.refl w.heap.size w).alloc (Nat.le_refl _) (.cells #[.string n, .slice A ts.length c] 24)
  have HB0 := Lib.hid b1
  have HX := Lib.hid (made_at w (.cells #[.string n, .slice A ts.length c] 24))
  have HA := Lib.hid (hA.later b1)
  have HN := Lib.hid (name_call hR.name)
  have HT := Lib.hid hR.task
  have HD := Lib.hid hR.names
  have hf1 : 1 ≤ ts.length := hR.few.1
  have hf8 : ts.length ≤ 8 := hR.few.2
  clear b1 hA hR
  go_enter Try.func6, Try.ntmps6
  go_upto_region 1 with fail
  generalize hW0 : (w.alloc (.cells #[.string n, .slice A ts.length c] 24)) = W0 at *
  clear hW0
  have x0 := cellH HX.out 0
  have x1 := cellH HX.out 1
  simp at x0 x1
  have g1 : ¬ (ts.length : Int) < 1 := by omega
  have g8 : ¬ (8 : Int) < (ts.length : Int) := by omega
  go_wp2_with fail
  refine (HN.out _).mono ?_
  rintro e w1 ⟨rfl, rfl⟩
  go_wp2_with fail
  go_loopw [3] (fun i wr => ∃ k : Nat, i = .int .i64 k ∧ k ≤ ts.length ∧ Below W0.heap.size W0 wr) (fun i _ => ts.length - (intOf i).toNat)
  case atStart => exact ⟨0, rfl, Nat.zero_le _, Below.refl _ _⟩
  case round =>
    obtain ⟨k, rfl, hk, hbw⟩ := hrel
    have HBW := Lib.hid hbw
    clear hbw x0 x1
    have x0 := cellH (later_at HBW.out HX.out) 0
    have x1 := cellH (later_at HBW.out HX.out) 1
    simp at x0 x1
    by_cases hlt : k < ts.length
    · obtain ⟨t, ht⟩ : ∃ t, ts[k]? = some t := ⟨_, List.getElem?_eq_getElem hlt⟩
      have hT := HT.out t (List.mem_of_getElem? ht)
      have HNT := Lib.hid (name_call hT.name)
      have HLB := Lib.hid (refright_is t.lv t.st true (rightB_iff.2 ⟨hT.lab.1, hT.lab.2.1⟩))
      have HGT := Lib.hid ht
      obtain ⟨pa, B1, c1, rfl, p0, pj, hN1, _⟩ := (HA.out.later HBW.out).at_ ht
      have HN1 := Lib.hid hN1
      have p1 := pj 1 _ rfl
      have p2 := pj 2 _ rfl
      have p3 := pj 3 _ rfl
      have p4 := pj 4 _ rfl
      have p5 := pj 5 _ rfl
      have p6 := pj 6 _ rfl
      have HTT := Lib.hid hT
      clear pj hN1 ht hT
      have hk0 : (0 : Int) ≤ (k : Int) := by omega
      have hkl : (k : Int) < (ts.length : Int) := by omega
      go_upto_region 7 with fail
      have hbc := (Below.refl wr.heap.size wr).alloc (Nat.le_refl _) (.cells (tkA t B1 c1) 34)
      have HXC := Lib.hid (made_at wr (.cells (tkA t B1 c1) 34))
      have HBC := Lib.hid (below_step HBW.out hbc)
      have HNA := Lib.hid (HN1.out.later hbc)
      have HX2 := Lib.hid (later_at HBC.out HX.out)
      have HA2 := Lib.hid (HA.out.later HBC.out)
      clear hbc p0 p1 p2 p3 p4 p5 p6 x0 x1 HN1
      generalize hWC : (wr.alloc (.cells (tkA t B1 c1) 34)) = wc at *
      have hblk : wr.heap.size < wc.heap.size := by rw [← hWC, World.size_alloc]; omega
      clear hWC
      have p0 := cellH HXC.out 0
      have p1 := cellH HXC.out 1
      have p2 := cellH HXC.out 2
      have p3 := cellH HXC.out 3
      have p4 := cellH HXC.out 4
      have p5 := cellH HXC.out 5
      have p6 := cellH HXC.out 6
      simp at p0 p1 p2 p3 p4 p5 p6
      have q1 : ¬ t.time < 1 := by have := HTT.out.time; omega
      have q2 : ¬ 100 < t.time := by have := HTT.out.time; omega
      have q3 : ¬ t.need < 0 := by have := HTT.out.need; omega
      have q4 : ¬ 4 < t.need := by have := HTT.out.need; omega
      have q5 : ¬ t.retry < 0 := by have := HTT.out.retry; omega
      have q6 : ¬ 5 < t.retry := by have := HTT.out.retry; omega
      go_wp2_with fail
      refine (HNT.out _).mono ?_
      rintro e w2 ⟨rfl, rfl⟩
      go_wp2_with fail
      refine (HLB.out _).mono ?_
      rintro e w3 ⟨rfl, hb3⟩
      have hx3 := later_at hb3 HXC.out
      clear p0 p1 p2 p3 p4 p5 p6
      have p2 := cellH hx3 2
      have p4 := cellH hx3 4
      have p5 := cellH hx3 5
      have p6 := cellH hx3 6
      simp at p2 p4 p5 p6
      have HXC3 := Lib.hid hx3
      have HBC3 := Lib.hid (below_step HBC.out hb3)
      have HNA3 := Lib.hid (HNA.out.later hb3)
      have HX3 := Lib.hid (later_at hb3 HX2.out)
      have HA3 := Lib.hid (HA2.out.later hb3)
      clear hx3 hb3 HXC HBC HNA HX2 HA2
      go_upto_region 9 with fail
      clear q1 q2 q3 q4 q5 q6
      go_cut [94] (fun e wx => wx = w3 ∧ e = .bool false)
      case first =>
        by_cases hg : t.need = 0
        · have n1 : (t.need == 0) = true := by rw [hg]; rfl
          have n2 : ¬ 0 < t.need := by omega
          have n3 : sameB t.lv t.st 0 0 = true := sameB_iff.2 (HTT.out.plain hg)
          clear hg
          go_wp2_with fail
          go_meet
          exact ⟨rfl, rfl⟩
        · have n1 : (t.need == 0) = false := beq_eq_false_iff_ne.2 hg
          have n2 : 0 < t.need := by have := HTT.out.need; omega
          have n3 : (t.retry != 0) = false := by rw [bne_eq_false_iff_eq]; exact HTT.out.gate n2
          clear hg
          go_wp2_with fail
          go_meet
          exact ⟨rfl, rfl⟩
      case rest =>
      obtain ⟨rfl, rfl⟩ := hcut
      clear p2 p4 p5 p6
      go_wp2_with fail
      go_loopw [5] (fun i wo => ∃ j : Nat, i = .int .i64 j ∧ j ≤ k ∧ Below wc.heap.size wc wo) (fun i _ => k - (intOf i).toNat)
      case atStart => exact ⟨0, rfl, Nat.zero_le _, Below.refl _ _⟩
      case round =>
        obtain ⟨j, rfl, hj, hbo⟩ := hrel
        have HBO := Lib.hid hbo
        clear hbo
        by_cases hlj : j < k
        · obtain ⟨u, hu⟩ : ∃ u, ts[j]? = some u := ⟨_, List.getElem?_eq_getElem (by omega)⟩
          have HNE := Lib.hid (show u.name ≠ t.name from nodup_ne HD.out (i := j) (j := k) (by rw [List.getElem?_map, hu]; rfl) (by rw [List.getElem?_map, HGT.out]; rfl) (by omega))
          have hne : (u.name.toList == t.name.toList) = false := by rw [ba_same]; exact decide_eq_false HNE.out
          obtain ⟨pb, B2, c2, epb, r0, _, _⟩ := (HA3.out.later HBO.out).at_ hu
          obtain rfl : pa = pb := by injection epb
          have x1 := cellH (later_at HBO.out HX3.out) 1
          have p0 := cellH (later_at HBO.out HXC3.out) 0
          simp at x1 p0
          have hj0 : (0 : Int) ≤ (j : Int) := by omega
          have hjl : (j : Int) < (ts.length : Int) := by omega
          have hjk : (j : Int) < (k : Int) := by omega
          clear hu HNE epb
          go_upto_region 14 with fail
          go_quiet (fail)
          go_wp2_with fail
          go_roundw
          case rel => exact ⟨j + 1, by go_num, by omega, Below.drewN_ HBO.out _⟩
          case measure => simp [intOf]; omega
        · have hjk : ¬ (j : Int) < (k : Int) := by omega
          clear hlj
          have HBC4 := Lib.hid (below_step HBC3.out HBO.out)
          have HNA4 := Lib.hid (HNA3.out.later HBO.out)
          have HX4 := Lib.hid (later_at HBO.out HX3.out)
          have HXC4 := Lib.hid (later_at HBO.out HXC3.out)
          have HAT := Lib.hid HTT.out.aft
          have hfa : t.after.length ≤ ts.length := few_below _ _ HTT.out.aft.1 HTT.out.aft.2
          go_wp2_with fail
          go_loopw [6] (fun i wp => ∃ a : Nat, i = .int .i64 a ∧ a ≤ t.after.length ∧ Below wr.heap.size wr wp) (fun i _ => t.after.length - (intOf i).toNat)
          case atStart => exact ⟨0, rfl, Nat.zero_le _, Below.refl _ _⟩
          case round =>
            obtain ⟨a, rfl, ha, hbp⟩ := hrel
            have HBP := Lib.hid hbp
            clear hbp
            have x1 := cellH (later_at HBP.out HX4.out) 1
            have p1 := cellH (later_at HBP.out HXC4.out) 1
            simp at x1 p1
            by_cases hla : a < t.after.length
            · obtain ⟨v, hv⟩ : ∃ v, t.after[a]? = some v := ⟨_, List.getElem?_eq_getElem hla⟩
              have hvl : v < ts.length := HAT.out.1 v (List.mem_of_getElem? hv)
              obtain ⟨ad, rfl, y0⟩ := (HNA4.out.later HBP.out).at_ hv
              have HGV := Lib.hid hv
              have ha0 : (0 : Int) ≤ (a : Int) := by omega
              have hal : (a : Int) < (t.after.length : Int) := by omega
              have v0 : ¬ (v : Int) < 0 := by omega
              have v1 : ¬ (ts.length : Int) ≤ (v : Int) := by omega
              clear hv hvl
              go_upto_region 19 with fail
              go_quiet (fail)
              clear x1 p1
              go_wp2_with fail
              go_loopw [7] (fun i wq => ∃ b : Nat, i = .int .i64 b ∧ b ≤ a ∧ Below wr.heap.size wr wq) (fun i _ => a - (intOf i).toNat)
              case atStart => exact ⟨0, rfl, Nat.zero_le _, Below.drewN_ (Below.refl _ _) _⟩
              case round =>
                obtain ⟨b, rfl, hb, hbq⟩ := hrel
                have HBQ := Lib.hid hbq
                clear hbq
                have hb5 := HBP.out.trans (HBQ.out.mono HBP.out.size)
                by_cases hlb : b < a
                · obtain ⟨u, hu⟩ : ∃ u, t.after[b]? = some u := ⟨_, List.getElem?_eq_getElem (by omega)⟩
                  have hne : u ≠ v := nodup_ne HAT.out.2 hu HGV.out (by omega)
                  have hne2 : ((u : Int) == (v : Int)) = false := beq_eq_false_iff_ne.2 (by omega)
                  obtain ⟨ad2, ead, y1⟩ := (HNA4.out.later hb5).at_ hu
                  obtain rfl : ad = ad2 := by injection ead
                  obtain ⟨ad3, ead3, y2⟩ := (HNA4.out.later hb5).at_ HGV.out
                  obtain rfl : ad = ad3 := by injection ead3
                  have p1 := cellH (later_at hb5 HXC4.out) 1
                  simp at p1
                  have hb0 : (0 : Int) ≤ (b : Int) := by omega
                  have hbl : (b : Int) < (t.after.length : Int) := by omega
                  have hba : (b : Int) < (a : Int) := by omega
                  clear hu hne ead ead3 hb5
                  go_upto_region 24 with fail
                  go_quiet (fail)
                  go_wp2_with fail
                  go_roundw
                  case rel => exact ⟨b + 1, by go_num, by omega, Below.drewN_ HBQ.out _⟩
                  case measure => simp [intOf]; omega
                · have hba : ¬ (b : Int) < (a : Int) := by omega
                  have HB5 := Lib.hid hb5
                  clear hb5
                  go_wp2_with fail
                  go_roundw
                  case rel => exact ⟨a + 1, by go_num, by omega, HB5.out⟩
                  case measure => simp [intOf]; omega
            · have hal : ¬ (a : Int) < (t.after.length : Int) := by omega
              have HB6 := Lib.hid (below_step HBC4.out HBP.out)
              go_wp2_with fail
              go_roundw
              case rel => exact ⟨k + 1, by go_num, by omega, HB6.out⟩
              case measure => simp [intOf]; omega
    · have hlk : ¬ (k : Int) < (ts.length : Int) := by omega
      go_wp2_with fail
      go_ret
      exact ⟨rfl, below_step HB0.out HBW.out⟩
end
end Go.Proofs.Ytpndjeccfdcjpaa
