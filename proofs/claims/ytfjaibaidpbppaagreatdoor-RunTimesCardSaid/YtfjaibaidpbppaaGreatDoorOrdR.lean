/-
  What the document's Right (package lockageref08) answers of any pipeline: true only of one that may be. Conditions: twenty tasks at most, each behind twenty at most, names of a hundred bytes at most.
-/
import Derived.Test.YtfjaibaidpbppaaGreatDoorLsR
namespace Go.Proofs.YtfjaibaidpbppaaGreatDoor
open Go.RowKit

abbrev RightOut (w : World) (n : ByteArray) (ts : List TkI) (e : Ending) (w' : World) : Prop := (∃ b, e = .returned (.bool b) ∧ (b = true → RightI n ts)) ∧ Below w.heap.size w w'
theorem rightOut_no {w w' : World} {n : ByteArray} {ts : List TkI} (hb : Below w.heap.size w w') : RightOut w n ts (.returned (.bool false)) w' := ⟨⟨false, rfl, fun h => by cases h⟩, hb⟩
/-- The tasks up to the k-th may be. -/
def DoneI (ts : List TkI) (k : Nat) : Prop := ∀ (i : Nat) t, i < k → ts[i]? = some t → TaskI ts.length t ∧ ∀ (j : Nat) u, j < i → ts[j]? = some u → u.name ≠ t.name
def DoneN (ts : List TkI) (t : TkI) (k : Nat) : Prop := ∀ (j : Nat) u, j < k → ts[j]? = some u → u.name ≠ t.name
def DoneA (n : Nat) (l : List Int) (k : Nat) : Prop := ∀ (i : Nat) (v : Int), i < k → l[i]? = some v → 0 ≤ v ∧ v < n ∧ ∀ (j : Nat) (u : Int), j < i → l[j]? = some u → u ≠ v
def DoneV (l : List Int) (v : Int) (k : Nat) : Prop := ∀ (j : Nat) (u : Int), j < k → l[j]? = some u → u ≠ v
theorem DoneI.more {ts : List TkI} {k : Nat} {t : TkI} (h : DoneI ts k) (ht : ts[k]? = some t) (h1 : TaskI ts.length t) (h2 : DoneN ts t k) : DoneI ts (k + 1) := by
  intro i u hi hu
  rcases Nat.lt_or_ge i k with hik | hik
  · exact h i u hik hu
  · obtain rfl : i = k := by omega
    rw [ht] at hu
    obtain rfl : t = u := by injection hu
    exact ⟨h1, h2⟩
theorem DoneN.more {ts : List TkI} {k : Nat} {t u : TkI} (h : DoneN ts t k) (hu : ts[k]? = some u) (hne : u.name ≠ t.name) : DoneN ts t (k + 1) := by
  intro i x hi hx
  rcases Nat.lt_or_ge i k with hik | hik
  · exact h i x hik hx
  · obtain rfl : i = k := by omega
    rw [hu] at hx
    obtain rfl : u = x := by injection hx
    exact hne
theorem DoneA.more {n k : Nat} {l : List Int} {v : Int} (h : DoneA n l k) (hv : l[k]? = some v) (h0 : 0 ≤ v) (h1 : v < n) (h2 : DoneV l v k) : DoneA n l (k + 1) := by
  intro i u hi hu
  rcases Nat.lt_or_ge i k with hik | hik
  · exact h i u hik hu
  · obtain rfl : i = k := by omega
    rw [hv] at hu
    obtain rfl : v = u := by injection hu
    exact ⟨h0, h1, h2⟩
theorem DoneV.more {k : Nat} {l : List Int} {u v : Int} (h : DoneV l v k) (hu : l[k]? = some u) (hne : u ≠ v) : DoneV l v (k + 1) := by
  intro i x hi hx
  rcases Nat.lt_or_ge i k with hik | hik
  · exact h i x hik hx
  · obtain rfl : i = k := by omega
    rw [hu] at hx
    obtain rfl : u = x := by injection hx
    exact hne
theorem DoneA.all {n : Nat} {l : List Int} (h : DoneA n l l.length) : AftI n l := fun i v hv => h i v (List.getElem?_eq_some_iff.1 hv).1 hv
section
variable {w : World} {A : Option Addr} {c : Nat} {n : ByteArray} {ts : List TkI}
set_option maxHeartbeats 4000000 in
set_option maxRecDepth 100000 in
theorem refrighti_is (hA : TksI w A ts) (hF : FewI n ts) :
    Calls Tryz.prog 31 #[.agg #[.string n, .slice A ts.length c]] w fun e w' => RightOut w n ts e w' := by
  have b1 := (Below.refl w.heap.size w).alloc (Nat.le_refl _) (.cells #[.string n, .slice A ts.length c] 24)
  have HB0 := Lib.hid b1
  have HX := Lib.hid (made_at w (.cells #[.string n, .slice A ts.length c] 24))
  have HA := Lib.hid (hA.later b1)
  have HF := Lib.hid hF.1
  have hf8 : ts.length ≤ 20 := hF.2.1
  have HN := Lib.hid (show n.size ≤ 1000000 by have := hF.2.2; omega)
  clear b1 hA hF
  go_enter Tryz.func31, Tryz.ntmps31
  go_upto_region 1 with fail
  generalize hW0 : (w.alloc (.cells #[.string n, .slice A ts.length c] 24)) = W0 at *
  clear hW0
  have x0 := cellH HX.out 0
  have x1 := cellH HX.out 1
  simp at x0 x1
  go_wp2_with fail
  refine (refname_is n HN.out _).mono ?_
  rintro e w1 ⟨rfl, rfl⟩
  cases hnm : nameP n
  case false =>
    go_wp2_with fail
    go_ret
    exact rightOut_no HB0.out
  case true =>
  have HNM := Lib.hid (show nameOk n from of_decide_eq_true hnm)
  clear hnm
  by_cases g1 : (ts.length : Int) < 1
  · go_wp2_with fail
    go_ret
    exact rightOut_no HB0.out
  by_cases g8 : (8 : Int) < (ts.length : Int)
  · go_wp2_with fail
    go_ret
    exact rightOut_no HB0.out
  have HG := Lib.hid (show 1 ≤ ts.length ∧ ts.length ≤ 8 by omega)
  go_wp2_with fail
  go_loopw [3] (fun i wr => ∃ k : Nat, i = .int .i64 k ∧ k ≤ ts.length ∧ Hid (DoneI ts k) ∧ Below W0.heap.size W0 wr) (fun i _ => ts.length - (intOf i).toNat)
  case atStart => exact ⟨0, rfl, Nat.zero_le _, Lib.hid (fun i t hi => absurd hi (Nat.not_lt_zero _)), Below.refl _ _⟩
  case round =>
    obtain ⟨k, rfl, hk, HD, hbw⟩ := hrel
    have HBW := Lib.hid hbw
    clear hbw x0 x1
    have x0 := cellH (later_at HBW.out HX.out) 0
    have x1 := cellH (later_at HBW.out HX.out) 1
    simp at x0 x1
    by_cases hlt : k < ts.length
    · obtain ⟨t, ht⟩ : ∃ t, ts[k]? = some t := ⟨_, List.getElem?_eq_getElem hlt⟩
      have hT := HF.out t (List.mem_of_getElem? ht)
      have HFA := Lib.hid hT.1
      have HFN := Lib.hid (show t.name.size ≤ 1000000 by have := hT.2; omega)
      have HGT := Lib.hid ht
      obtain ⟨pa, B1, c1, rfl, p0, pj, hN1, _⟩ := (HA.out.later HBW.out).at_ ht
      have HN1 := Lib.hid hN1
      have p1 := pj 1 _ rfl
      have p2 := pj 2 _ rfl
      have p3 := pj 3 _ rfl
      have p4 := pj 4 _ rfl
      have p5 := pj 5 _ rfl
      have p6 := pj 6 _ rfl
      clear pj hN1 ht hT
      have hk0 : (0 : Int) ≤ (k : Int) := by omega
      have hkl : (k : Int) < (ts.length : Int) := by omega
      go_upto_region 7 with fail
      have hbc := (Below.refl wr.heap.size wr).alloc (Nat.le_refl _) (.cells (tkiA t B1 c1) 65)
      have HXC := Lib.hid (made_at wr (.cells (tkiA t B1 c1) 65))
      have HBC := Lib.hid (below_step HBW.out hbc)
      have HNA := Lib.hid (HN1.out.later hbc)
      have HX2 := Lib.hid (later_at HBC.out HX.out)
      have HA2 := Lib.hid (HA.out.later HBC.out)
      clear hbc p0 p1 p2 p3 p4 p5 p6 x0 x1 HN1
      generalize hWC : (wr.alloc (.cells (tkiA t B1 c1) 65)) = wc at *
      have hblk : wr.heap.size < wc.heap.size := by rw [← hWC, World.size_alloc]; omega
      clear hWC
      have p0 := cellH HXC.out 0
      have p1 := cellH HXC.out 1
      have p2 := cellH HXC.out 2
      have p3 := cellH HXC.out 3
      have p4 := cellH HXC.out 4
      have p5 := cellH HXC.out 5
      have p6 := cellH HXC.out 6
      simp at p0 p1 p2 p3 p4 p5 p6
      go_wp2_with fail
      refine (refname_is t.name HFN.out _).mono ?_
      rintro e w2 ⟨rfl, rfl⟩
      cases hnm : nameP t.name
      case false =>
        go_wp2_with fail
        go_ret
        exact rightOut_no (below_step HB0.out HBC.out)
      case true =>
      have HNT := Lib.hid (show nameOk t.name from of_decide_eq_true hnm)
      clear hnm
      by_cases q1 : t.time < 1
      · go_wp2_with fail
        go_ret
        exact rightOut_no (below_step HB0.out HBC.out)
      by_cases q2 : 100 < t.time
      · go_wp2_with fail
        go_ret
        exact rightOut_no (below_step HB0.out HBC.out)
      by_cases q3 : t.need < 0
      · go_wp2_with fail
        go_ret
        exact rightOut_no (below_step HB0.out HBC.out)
      by_cases q4 : 4 < t.need
      · go_wp2_with fail
        go_ret
        exact rightOut_no (below_step HB0.out HBC.out)
      by_cases q5 : t.retry < 0
      · go_wp2_with fail
        go_ret
        exact rightOut_no (below_step HB0.out HBC.out)
      by_cases q6 : 5 < t.retry
      · go_wp2_with fail
        go_ret
        exact rightOut_no (below_step HB0.out HBC.out)
      have HTI := Lib.hid (show (1 ≤ t.time ∧ t.time ≤ 100) ∧ (0 ≤ t.need ∧ t.need ≤ 4) ∧ (0 ≤ t.retry ∧ t.retry ≤ 5) by omega)
      go_wp2_with fail
      refine (refright_is t.lv t.st _ rfl _).mono ?_
      rintro e w3 ⟨rfl, hb3⟩
      have hx3 := later_at hb3 HXC.out
      clear p0 p1 p2 p3 p4 p5 p6
      have p2 := cellH hx3 2
      have p4 := cellH hx3 4
      have p5 := cellH hx3 5
      have p6 := cellH hx3 6
      simp at p2 p4 p5 p6
      have HXC3 := Lib.hid hx3
      have HBC3 := Lib.hid (below_step HBC.out hb3)
      have HNA3 := Lib.hid (HNA.out.later hb3)
      have HX3 := Lib.hid (later_at hb3 HX2.out)
      have HA3 := Lib.hid (HA2.out.later hb3)
      clear hx3 hb3 HXC HBC HNA HX2 HA2
      cases hlb : rightB t.lv
      case false =>
        go_wp2_with fail
        go_ret
        exact rightOut_no (below_step HB0.out HBC3.out)
      case true =>
      have HLB := Lib.hid (rightB_iff.1 hlb)
      clear hlb
      go_upto_region 9 with fail
      clear q1 q2 q3 q4 q5 q6
      go_cut [94] (fun e wx => wx = w3 ∧ ∃ b : Bool, e = .bool b ∧ (b = false → (t.need = 0 → t.lv = 0 ∧ t.st = 0) ∧ (0 < t.need → t.retry = 0)))
      case first =>
        by_cases hg : t.need = 0
        · have n1 : (t.need == 0) = true := by rw [hg]; rfl
          have n2 : ¬ 0 < t.need := by omega
          cases n3 : sameB t.lv t.st 0 0
          · clear hg
            go_wp2_with fail
            go_meet
            exact ⟨rfl, true, rfl, fun h => by cases h⟩
          · have HZ := Lib.hid (sameB_iff.1 n3)
            have HN2 := Lib.hid n2
            clear hg
            go_wp2_with fail
            go_meet
            exact ⟨rfl, false, rfl, fun _ => ⟨fun _ => HZ.out, fun h => absurd h (by have := HN2.out; omega)⟩⟩
        · have n1 : (t.need == 0) = false := beq_eq_false_iff_ne.2 hg
          have n2 : 0 < t.need := by have := HTI.out; omega
          have HG0 := Lib.hid hg
          clear hg
          cases n3 : (t.retry != 0)
          · have HZ := Lib.hid (show t.retry = 0 by rwa [bne_eq_false_iff_eq] at n3)
            go_wp2_with fail
            go_meet
            exact ⟨rfl, false, rfl, fun _ => ⟨fun h => absurd h HG0.out, fun _ => HZ.out⟩⟩
          · go_wp2_with fail
            go_meet
            exact ⟨rfl, true, rfl, fun h => by cases h⟩
      case rest =>
      obtain ⟨rfl, b, rfl, hpg⟩ := hcut
      clear p2 p4 p5 p6
      cases b
      case true =>
        clear hpg
        go_wp2_with fail
        go_ret
        exact rightOut_no (below_step HB0.out HBC3.out)
      case false =>
      have HPG := Lib.hid (hpg rfl)
      clear hpg
      go_wp2_with fail
      go_loopw [5] (fun i wo => ∃ j : Nat, i = .int .i64 j ∧ j ≤ k ∧ Hid (DoneN ts t j) ∧ Below wc.heap.size wc wo) (fun i _ => k - (intOf i).toNat)
      case atStart => exact ⟨0, rfl, Nat.zero_le _, Lib.hid (fun i t hi => absurd hi (Nat.not_lt_zero _)), Below.refl _ _⟩
      case round =>
        obtain ⟨j, rfl, hj, HDN, hbo⟩ := hrel
        have HBO := Lib.hid hbo
        clear hbo
        by_cases hlj : j < k
        · obtain ⟨u, hu⟩ : ∃ u, ts[j]? = some u := ⟨_, List.getElem?_eq_getElem (by omega)⟩
          have HU := Lib.hid hu
          obtain ⟨pb, B2, c2, epb, r0, _, _⟩ := (HA3.out.later HBO.out).at_ hu
          obtain rfl : pa = pb := by injection epb
          have x1 := cellH (later_at HBO.out HX3.out) 1
          have p0 := cellH (later_at HBO.out HXC3.out) 0
          simp at x1 p0
          have hj0 : (0 : Int) ≤ (j : Int) := by omega
          have hjl : (j : Int) < (ts.length : Int) := by omega
          have hjk : (j : Int) < (k : Int) := by omega
          clear hu epb
          go_upto_region 14 with fail
          go_quiet (fail)
          cases hne : (u.name.toList == t.name.toList)
          · have HNE := Lib.hid (show u.name ≠ t.name by rw [ba_same] at hne; exact of_decide_eq_false hne)
            go_wp2_with fail
            go_roundw
            case rel => exact ⟨j + 1, by go_num, by omega, Lib.hid (HDN.out.more HU.out HNE.out), Below.drewN_ HBO.out _⟩
            case measure => simp [intOf]; omega
          · go_wp2_with fail
            go_ret
            exact rightOut_no (below_step HB0.out (below_step HBC3.out (Below.drewN_ HBO.out _)))
        · have hjk : ¬ (j : Int) < (k : Int) := by omega
          have HDK := Lib.hid (show DoneN ts t k by obtain rfl : j = k := by omega
                                                    exact HDN.out)
          clear hlj
          have HBC4 := Lib.hid (below_step HBC3.out HBO.out)
          have HNA4 := Lib.hid (HNA3.out.later HBO.out)
          have HX4 := Lib.hid (later_at HBO.out HX3.out)
          have HXC4 := Lib.hid (later_at HBO.out HXC3.out)
          have hfa : t.after.length ≤ 20 := HFA.out
          go_wp2_with fail
          go_loopw [6] (fun i wp => ∃ a : Nat, i = .int .i64 a ∧ a ≤ t.after.length ∧ Hid (DoneA ts.length t.after a) ∧ Below wr.heap.size wr wp) (fun i _ => t.after.length - (intOf i).toNat)
          case atStart => exact ⟨0, rfl, Nat.zero_le _, Lib.hid (fun i t hi => absurd hi (Nat.not_lt_zero _)), Below.refl _ _⟩
          case round =>
            obtain ⟨a, rfl, ha, HDA, hbp⟩ := hrel
            have HBP := Lib.hid hbp
            clear hbp
            have x1 := cellH (later_at HBP.out HX4.out) 1
            have p1 := cellH (later_at HBP.out HXC4.out) 1
            simp at x1 p1
            by_cases hla : a < t.after.length
            · obtain ⟨v, hv⟩ : ∃ v, t.after[a]? = some v := ⟨_, List.getElem?_eq_getElem hla⟩
              obtain ⟨ad, rfl, y0⟩ := (HNA4.out.later HBP.out).at_ hv
              have HGV := Lib.hid hv
              have ha0 : (0 : Int) ≤ (a : Int) := by omega
              have hal : (a : Int) < (t.after.length : Int) := by omega
              clear hv
              by_cases v0 : v < 0
              · go_upto_region 19 with fail
                go_quiet (fail)
                go_wp2_with fail
                go_ret
                exact rightOut_no (below_step HB0.out (below_step HBC4.out (Below.drewN_ HBP.out _)))
              by_cases v1 : (ts.length : Int) ≤ v
              · go_upto_region 19 with fail
                go_quiet (fail)
                go_wp2_with fail
                go_ret
                exact rightOut_no (below_step HB0.out (below_step HBC4.out (Below.drewN_ HBP.out _)))
              go_upto_region 19 with fail
              go_quiet (fail)
              have HV := Lib.hid (show 0 ≤ v ∧ v < (ts.length : Int) by omega)
              clear x1 p1
              go_wp2_with fail
              go_loopw [7] (fun i wq => ∃ b : Nat, i = .int .i64 b ∧ b ≤ a ∧ Hid (DoneV t.after v b) ∧ Below wr.heap.size wr wq) (fun i _ => a - (intOf i).toNat)
              case atStart => exact ⟨0, rfl, Nat.zero_le _, Lib.hid (fun i t hi => absurd hi (Nat.not_lt_zero _)), Below.drewN_ (Below.refl _ _) _⟩
              case round =>
                obtain ⟨b, rfl, hb, HDV, hbq⟩ := hrel
                have HBQ := Lib.hid hbq
                clear hbq
                have hb5 := HBP.out.trans (HBQ.out.mono HBP.out.size)
                by_cases hlb : b < a
                · obtain ⟨u, hu⟩ : ∃ u, t.after[b]? = some u := ⟨_, List.getElem?_eq_getElem (by omega)⟩
                  have HGU := Lib.hid hu
                  obtain ⟨ad2, ead, y1⟩ := (HNA4.out.later hb5).at_ hu
                  obtain rfl : ad = ad2 := by injection ead
                  obtain ⟨ad3, ead3, y2⟩ := (HNA4.out.later hb5).at_ HGV.out
                  obtain rfl : ad = ad3 := by injection ead3
                  have p1 := cellH (later_at hb5 HXC4.out) 1
                  simp at p1
                  have hb0 : (0 : Int) ≤ (b : Int) := by omega
                  have hbl : (b : Int) < (t.after.length : Int) := by omega
                  have hba : (b : Int) < (a : Int) := by omega
                  have HB5 := Lib.hid hb5
                  clear hu ead ead3 hb5
                  go_upto_region 24 with fail
                  go_quiet (fail)
                  cases hne : (u == v)
                  · have HNE := Lib.hid (show u ≠ v from beq_eq_false_iff_ne.1 hne)
                    go_wp2_with fail
                    go_roundw
                    case rel => exact ⟨b + 1, by go_num, by omega, Lib.hid (HDV.out.more HGU.out HNE.out), Below.drewN_ HBQ.out _⟩
                    case measure => simp [intOf]; omega
                  · go_wp2_with fail
                    go_ret
                    exact rightOut_no (below_step HB0.out (below_step HBC4.out (Below.drewN_ HB5.out _)))
                · have hba : ¬ (b : Int) < (a : Int) := by omega
                  have HB5 := Lib.hid hb5
                  have HDB := Lib.hid (show DoneV t.after v a by obtain rfl : b = a := by omega
                                                                 exact HDV.out)
                  clear hb5
                  go_wp2_with fail
                  go_roundw
                  case rel => exact ⟨a + 1, by go_num, by omega, Lib.hid (HDA.out.more HGV.out HV.out.1 HV.out.2 HDB.out), HB5.out⟩
                  case measure => simp [intOf]; omega
            · have hal : ¬ (a : Int) < (t.after.length : Int) := by omega
              have HB6 := Lib.hid (below_step HBC4.out HBP.out)
              have HAF := Lib.hid (show AftI ts.length t.after by obtain rfl : a = t.after.length := by omega
                                                                  exact HDA.out.all)
              go_wp2_with fail
              go_roundw
              case rel => exact ⟨k + 1, by go_num, by omega, Lib.hid (HD.out.more HGT.out ⟨HNT.out, HTI.out.1, HTI.out.2.1, HTI.out.2.2, HLB.out, HPG.out.1, HPG.out.2, HAF.out⟩ HDK.out), HB6.out⟩
              case measure => simp [intOf]; omega
    · have hlk : ¬ (k : Int) < (ts.length : Int) := by omega
      have HDL := Lib.hid (show DoneI ts ts.length by obtain rfl : k = ts.length := by omega
                                                      exact HD.out)
      go_wp2_with fail
      go_ret
      exact ⟨⟨true, rfl, fun _ => ⟨HNM.out, HG.out, fun i t ht => HDL.out i t (List.getElem?_eq_some_iff.1 ht).1 ht⟩⟩, below_step HB0.out HBW.out⟩
end
end Go.Proofs.YtfjaibaidpbppaaGreatDoor
