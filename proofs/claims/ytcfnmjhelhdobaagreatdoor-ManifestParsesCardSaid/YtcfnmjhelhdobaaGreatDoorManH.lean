/-
  What the document's Parse (package lockageref08) answers: any text's pipeline, or what is first wrong with it. No conditions.
-/
import Derived.Test.YtcfnmjhelhdobaaGreatDoorManF
import Derived.Test.YtcfnmjhelhdobaaGreatDoorManR
import Derived.Test.YtcfnmjhelhdobaaGreatDoorLexQ
namespace Go.Proofs.YtcfnmjhelhdobaaGreatDoor
open Go.RowKit

theorem bad_ne {s : ByteArray} {e p : Nat} (h : lexP s = .bad e p) : (e : Int) ≠ 0 := by
  have := lexP_bad h
  omega

set_option maxHeartbeats 8000000 in
set_option maxRecDepth 100000 in
theorem refparse8_is (s : ByteArray) (hs : s.size ≤ 1000000) (w : World) : Calls Tryz.prog 9 #[.string s] w (ParseOut w (parseP s)) := by
  obtain ⟨r, hr⟩ : ∃ r, r = parseP s := ⟨_, rfl⟩
  rw [← hr]
  have HR := Lib.hid hr
  have RL := Lib.hid (fun W : World => reflines_is s W)
  obtain ⟨lx, hlx⟩ : ∃ lx, lx = lexP s := ⟨_, rfl⟩
  rw [← hlx] at RL
  have HLX := Lib.hid hlx.symm
  clear hr hlx
  have HB0 := Lib.hid ((Below.refl w.heap.size w).alloc (Nat.le_refl _) (.cells #[.string ⟨#[]⟩, .slice none 0 0] 25))
  have HZ0 := Lib.hid (made_at w (.cells #[.string ⟨#[]⟩, .slice none 0 0] 25))
  go_enter Tryz.func9, Tryz.ntmps9
  go_wp2_with fail
  refine (RL.out _).mono ?_
  rintro e w1 ⟨hb1, hlo⟩
  have HB1 := Lib.hid (below_step HB0.out hb1)
  have HZ1 := Lib.hid (later_at hb1 HZ0.out)
  have hwb : w.heap.size + 1 ≤ w1.heap.size := by
    have h0 := hb1.size
    rw [World.size_alloc] at h0
    exact h0
  clear hb1 HB0 HZ0 RL
  have rf := freeH HZ1.out
  have r0 := cellH HZ1.out 0
  have r1 := cellH HZ1.out 1
  simp at r0 r1
  cases lx with
  | bad e p =>
    obtain rfl := hlo
    have hne : (e : Int) ≠ 0 := bad_ne HLX.out
    have HV := Lib.hid (show r = .inl ⟨e, p⟩ from HR.out.trans (parse_lex HLX.out))
    go_wp2_with fail
    show bodyPost _ _ _ _ _ (set2 w1 w.heap.size ⟨#[]⟩ (.slice none 0 0))
    obtain ⟨hz, hb⟩ := fin2 HZ1.out rfl HB1.out ⟨#[]⟩ (.slice none 0 0)
    generalize (set2 w1 w.heap.size ⟨#[]⟩ (.slice none 0 0)) = W9 at hz hb ⊢
    refine bodyPost_ret (results_cell3 (fn := Tryz.f9) rfl _ _ w.heap.size 25 #[.string ⟨#[]⟩, (.slice none 0 0)] (0, 0) _ rfl hz Tryz.underlying25 rfl info_pi) rfl ⟨hb, ?_⟩
    rw [HV.out]
    exact rfl

  | good L =>
    obtain ⟨A, c, rfl, hL⟩ := hlo
    rw [World.size_alloc] at hL
    have HL0 := Lib.hid hL
    clear hL
    by_cases hLn : L = []
    · have HV := Lib.hid (show r = .inl ⟨6, s.size⟩ from HR.out.trans (parse_none (by rw [HLX.out, hLn])))
      have hl0 : (L.length : Int) = 0 := by rw [hLn]; rfl
      clear hLn
      go_wp2_with fail
      show bodyPost _ _ _ _ _ (set2 w1 w.heap.size ⟨#[]⟩ (.slice none 0 0))
      obtain ⟨hz, hb⟩ := fin2 HZ1.out rfl HB1.out ⟨#[]⟩ (.slice none 0 0)
      generalize (set2 w1 w.heap.size ⟨#[]⟩ (.slice none 0 0)) = W9 at hz hb ⊢
      refine bodyPost_ret (results_cell3 (fn := Tryz.f9) rfl _ _ w.heap.size 25 #[.string ⟨#[]⟩, (.slice none 0 0)] (0, 0) _ rfl hz Tryz.underlying25 rfl info_pi) rfl ⟨hb, ?_⟩
      rw [HV.out]
      exact rfl

    · obtain ⟨l0, hl0⟩ : ∃ l0, L[0]? = some l0 := ⟨_, List.getElem?_eq_getElem (List.length_pos_iff.2 hLn)⟩
      have hLp : 0 < L.length := List.length_pos_iff.2 hLn
      have HL00 := Lib.hid hl0
      have HSOME := Lib.hid (lexP_some HLX.out)
      have hLm : L.length ≤ 1000001 := by have := (lexP_ok HLX.out).1; omega
      have HWDS := Lib.hid (fun (l : List Wd) (h : l ∈ L) => lexP_words HLX.out h)
      have HLD := Lib.hid (show lexP s = .good (l0 :: L.drop 1) from HLX.out.trans (congrArg LxR.good (drop_any (l := L) (k := 0) hl0)))
      have hl1 : 0 < l0.length := List.length_pos_iff.2 (HSOME.out.2 l0 (List.mem_of_getElem? hl0))
      obtain ⟨a, ha⟩ : ∃ a, l0[0]? = some a := ⟨_, List.getElem?_eq_getElem hl1⟩
      have HA0 := Lib.hid ha
      obtain ⟨ad, B0, c0, eA, hlo, u0, hB0, hlo2⟩ := HL0.out.at_ hl0
      have HB00 := Lib.hid hB0
      subst eA
      obtain ⟨bd, eB, q0, q1⟩ := hB0.at_ ha
      subst eB
      simp [Addr.add] at u0 q0 q1
      have hne0 : ((L.length : Int) == 0) = false := beq_eq_false_iff_ne.2 (by omega)
      clear hLn hl0 ha hB0
      have hab : ad.block ≠ w.heap.size := by omega
      have hbb : bd.block ≠ w.heap.size := by have := hlo2 bd rfl; omega
      clear hlo hlo2
      go_upto_region 6 with fail
      by_cases hp : a.t = sPipe
      · have HP := Lib.hid hp
        have q2 : (a.t.toList == [112, 105, 112, 101]) = true := (ba_list (t := sPipe) rfl).trans (decide_eq_true hp)
        clear hp
        by_cases h2 : l0.length = 2
        · obtain ⟨b, hb⟩ : ∃ b, l0[1]? = some b := ⟨_, List.getElem?_eq_getElem (by omega)⟩
          have HBW := Lib.hid hb
          obtain ⟨_, eB, p0, p1⟩ := HB00.out.at_ hb
          injection eB with eB
          subst eB
          simp [Addr.add] at p0 p1
          have hbw := (HWDS.out _ (List.mem_of_getElem? HL00.out)).2 b (List.mem_of_getElem? hb)
          have RN := Lib.hid (fun w : World => refname_is b.t (by omega) w)
          obtain ⟨nb, hnb⟩ : ∃ nb, nb = nameP b.t := ⟨_, rfl⟩
          rw [← hnb] at RN
          have HNB := Lib.hid hnb
          clear hnb hb
          have h2' : (l0.length : Int) = 2 := by omega
          go_wp2_with fail
          refine (RN.out _).mono ?_
          rintro e w2 ⟨rfl, hw2⟩
          subst hw2
          clear RN
          cases nb with
          | false =>
            have HV := Lib.hid (show r = .inl ⟨15, b.p⟩ from HR.out.trans (parse_15 HLD.out HA0.out HBW.out HP.out h2 HNB.out.symm))
            have u0s := (set2_cell hab ⟨#[]⟩ (.slice none 0 0)).trans u0
            unfold set2 at u0s

            go_upto_region 11 with fail
            go_region
            go_wp2_with fail
            show bodyPost _ _ _ _ _ (set2 w1 w.heap.size ⟨#[]⟩ (.slice none 0 0)).drew
            obtain ⟨hz, hb⟩ := fin2 HZ1.out rfl HB1.out ⟨#[]⟩ (.slice none 0 0)
            replace hz := drew_row hz
            replace hb := hb.drew
            generalize (set2 w1 w.heap.size ⟨#[]⟩ (.slice none 0 0)).drew = W9 at hz hb ⊢
            refine bodyPost_ret (results_cell3 (fn := Tryz.f9) rfl _ _ w.heap.size 25 #[.string ⟨#[]⟩, (.slice none 0 0)] (0, 0) _ rfl hz Tryz.underlying25 rfl info_pi) rfl ⟨hb, ?_⟩
            rw [HV.out]
            exact rfl

          | true =>
            have HG := Lib.hid (show r = endL b.t s.size (linesP [] (L.drop 1)) from HR.out.trans (parse_go HLD.out HA0.out HBW.out HP.out h2 HNB.out.symm))
            have HPA0 := Lib.hid (show PaW w w1.heap.size [] [] (.slice none 0 0) (.slice none 0 0) w1 from ⟨HZ1.out, World.ownsRow_nil _ _ _ _, World.ownsRow_nil _ _ _ _, fun y hy => absurd hy (by simp), HB1.out, hwb, Nat.le_refl _⟩)
            go_upto_region 14 with fail
            have HU := Lib.hid (And.intro u0 (And.intro p0 (And.intro hab hbb)))
            clear u0 q0 q1 q2 p0 p1 rf r0 r1 hab hbb hne0
            go_wp2_with fail
            go_loopw [8, 9, 10] (fun vn vl i wr => ∃ (k : Nat) (ys : List (LnP × Value)) (ns : List ByteArray), i = .int .i64 k ∧ 1 ≤ k ∧ k ≤ L.length ∧ r = endL b.t s.size (linesP (ys.map (fun y => y.1)) (L.drop k)) ∧ PaW w w1.heap.size ns ys vn vl wr ∧ ns = ys.map (fun y => y.1.name) ∧ ys.length ≤ 8 ∧ (∀ y ∈ ys, y.1.after.length ≤ 1001) ∧ Below w1.heap.size w1 wr) (fun _ _ i _ => L.length - (intOf i).toNat)
            case atStart => exact ⟨1, [], [], rfl, Nat.le_refl _, by omega, HG.out, HPA0.out, rfl, Nat.zero_le _, fun y hy => absurd hy (by simp), Below.refl _ _⟩
            case round =>
              obtain ⟨k, ys, ns, rfl, hk1, hkL, hrr, hpa, hns, hy8, hya, hbw⟩ := hrel
              have HRR := Lib.hid hrr
              have HPA := Lib.hid hpa
              have HNS := Lib.hid hns
              have HY8 := Lib.hid hy8
              have HYA := Lib.hid hya
              have HBW := Lib.hid hbw
              have HNL := Lib.hid (show ns.length = ys.length by rw [hns, List.length_map])
              obtain ⟨A9, c9, rfl, hTX⟩ := own_texts hpa.names
              obtain ⟨A8, c8, rfl⟩ := own_slice hpa.rows
              have HTX := Lib.hid hTX
              clear hrr hpa hns hy8 hya hbw hTX HPA0 HG
              by_cases hlt : k < L.length
              · obtain ⟨l, hl⟩ : ∃ l, L[k]? = some l := ⟨_, List.getElem?_eq_getElem hlt⟩
                have HLK := Lib.hid hl
                have hlm := List.mem_of_getElem? hl
                obtain ⟨_, B1, c1, eA, _, u1, hW1, _⟩ := (HL0.out.later HBW.out).at_ hl
                injection eA with eA
                subst eA
                have LI := Lib.hid (line_is (c := c1) (c2 := c9) hW1 HTX.out (List.length_pos_iff.2 (HSOME.out.2 l hlm)) (by have := (HWDS.out l hlm).1; omega) (by have := HY8.out; have := HNL.out; omega) (fun a ha => by have := (HWDS.out l hlm).2 a ha; omega))
                obtain ⟨lr, hlr⟩ : ∃ lr, lr = lineP l ns := ⟨_, rfl⟩
                rw [← hlr] at LI
                have HLR := Lib.hid (show lineP l ((ys.map (fun y => y.1)).map (·.name)) = lr by rw [hlr, HNS.out, List.map_map]; rfl)
                have HLA := Lib.hid (fun x (e : lr = .inr x) => line_after (N := 1000) (fun a ha => ((HWDS.out l hlm).2 a ha).1) (hlr.symm.trans e))
                clear hl hlm hW1 hlr
                have hk0 : (0 : Int) ≤ (k : Int) := by omega
                have hkl : (k : Int) < (L.length : Int) := by omega
                go_wp2_with fail
                refine LI.out.mono ?_
                rintro e w2 ⟨hb2, hlo⟩
                have HPA2 := Lib.hid (HPA.out.later hb2)
                have HBW2 := Lib.hid (below_step HBW.out hb2)
                clear hb2 LI u1 HPA HBW HTX
                cases lr with
                | inl f =>
                  obtain ⟨y, A5, n5, c5, rfl⟩ := hlo
                  have hne : (f.e : Int) ≠ 0 := line_err (HLR.out)
                  have HV := Lib.hid (show r = .inl f by rw [HRR.out, drop_any HLK.out, lines_bad HLR.out]; rfl)
                  dsimp only [lnV, lnC]
                  have HPA3 := Lib.hid (HPA2.out.later ((Below.refl w2.heap.size w2).alloc (Nat.le_refl _) (.cells (lnC y (.slice A5 n5 c5)) 62)))
                  have rf := freeH HPA3.out.res
                  have r0 := cellH HPA3.out.res 0
                  have r1 := cellH HPA3.out.res 1
                  simp [lnC] at r0 r1 rf
                  go_wp2_with fail
                  show bodyPost _ _ _ _ _ (set2 (w2.alloc (.cells (lnC y (.slice A5 n5 c5)) 62)) w.heap.size ⟨#[]⟩ (.slice none 0 0))
                  obtain ⟨hz, hb⟩ := fin2 HPA3.out.res rfl HPA3.out.low ⟨#[]⟩ (.slice none 0 0)
                  generalize (set2 (w2.alloc (.cells (lnC y (.slice A5 n5 c5)) 62)) w.heap.size ⟨#[]⟩ (.slice none 0 0)) = W9 at hz hb ⊢
                  refine bodyPost_ret (results_cell3 (fn := Tryz.f9) rfl _ _ w.heap.size 25 #[.string ⟨#[]⟩, (.slice none 0 0)] (0, 0) _ rfl hz Tryz.underlying25 rfl info_pi) rfl ⟨hb, ?_⟩
                  rw [HV.out]
                  exact rfl
                | inr y =>
                  obtain ⟨av, rfl, haft⟩ := hlo
                  obtain ⟨h8, ha1⟩ := HLA.out y rfl
                  have HV := Lib.hid (show r = endL b.t s.size (linesP (ys.map (fun y => y.1) ++ [y]) (L.drop (k + 1))) by rw [HRR.out, drop_any HLK.out, lines_good HLR.out])
                  have HAF := Lib.hid haft
                  obtain ⟨A6, c6, hav, _⟩ := haft
                  subst hav
                  dsimp only [lnV, lnC]
                  go_upto_region 20 with fail
                  have l2 := (Below.refl w2.heap.size w2).alloc (Nat.le_refl _) (.cells (lnC y (.slice A6 y.after.length c6)) 62)
                  have HPA3 := Lib.hid (HPA2.out.later l2)
                  have HAF3 := Lib.hid (HAF.out.frame (fun g _ hg => l2.block g (Array.getElem?_eq_some_iff.1 hg).1))
                  have HX3 := Lib.hid (made_at w2 (.cells (lnC y (.slice A6 y.after.length c6)) 62))
                  have HBW3 := Lib.hid (below_step HBW2.out l2)
                  have hX : w2.heap.size ≠ w2.heap.size + 1 := by omega
                  generalize hW3 : w2.alloc (.cells (lnC y (.slice A6 y.after.length c6)) 62) = w3 at *
                  simp only [lnC] at hW3
                  rw [hW3]
                  clear l2 hW3 HPA2 HBW2 HAF
                  have x0 := cellH HX3.out 0
                  simp [lnC] at x0
                  have l3 := (Below.refl w3.heap.size w3).alloc (Nat.le_refl _) (.cells #[.string y.name] 9)
                  have HPA4 := Lib.hid (HPA3.out.later l3)
                  have HAF4 := Lib.hid (HAF3.out.frame (fun g _ hg => l3.block g (Array.getElem?_eq_some_iff.1 hg).1))
                  have HX4 := Lib.hid (later_at l3 HX3.out)
                  have HBW4 := Lib.hid (below_step HBW3.out l3)
                  have HNW := Lib.hid (cells_new w3 [.string y.name] 9)
                  have hbase : w1.heap.size ≤ (w3.alloc (.cells #[.string y.name] 9)).heap.size := HBW4.out.size
                  have hn8 : ns.length ≤ 8 := by have := HNL.out; have := HY8.out; omega
                  obtain ⟨i0, hi0, hz0, hz1, hz2⟩ := info_all info_str3
                  clear l3
                  go_upto_region 21 with (at_builtin; refine wpList_append_own _ rfl (.tmp 98) (.tmp 102) 59 rfl w1.heap.size 9 i0 _ 1 16 Tryz.underlying59 hi0 hz0 hz1 hz2 rfl (by omega) (.slice A9 ns.length c9) ns.length (ns.map Value.string) rfl HPA4.out.names ⟨w3.heap.size, 0, none⟩ 1 1 [.string y.name] rfl rfl HNW.out (by simp [Value.oneCell']) (by unfold maxLen; omega) (by omega) hbase ?_; intro v4 w4 hown4 hg4 _; have HPA5 := Lib.hid (HPA4.out.name y.name hg4 hown4); have HX5 := Lib.hid ((hg4.block _ (Array.getElem?_eq_some_iff.1 HX4.out).1 (fun e => absurd (tag_ne HX4.out (own_tag HPA4.out.names e.symm).2.choose_spec) (by decide))).trans HX4.out); have HAF5 := Lib.hid (HAF4.out.frame (fun g _ hg => hg4.block g (Array.getElem?_eq_some_iff.1 hg).1 (fun e => absurd (tag_ne hg (own_tag HPA4.out.names e.symm).2.choose_spec) (by decide)))); have HBW5 := Lib.hid (HBW4.out.grown hg4 HBW4.out.size (fun g e => (own_tag HPA4.out.names e).1)); clear hown4 hg4)
                  obtain ⟨A10, c10, rfl⟩ := own_slice HPA5.out.names
                  clear HPA3 HPA4 HX3 HX4 HAF3 HAF4 HBW3 HBW4 HNW hbase x0
                  have x0 := cellH HX5.out
                  have X0 := x0 0
                  have X1 := x0 1
                  have X2 := x0 2
                  have X3 := x0 3
                  have X4 := x0 4
                  have X5 := x0 5
                  have X6 := x0 6
                  have X7 := x0 7
                  simp [lnC] at X0 X1 X2 X3 X4 X5 X6 X7
                  clear x0
                  have l5 := (Below.refl w4.heap.size w4).alloc (Nat.le_refl _) (.cells (lnC y (.slice A6 y.after.length c6)) 62)
                  have HPA6 := Lib.hid (HPA5.out.later l5)
                  have HAF6 := Lib.hid (HAF5.out.frame (fun g _ hg => l5.block g (Array.getElem?_eq_some_iff.1 hg).1))
                  have HBW6 := Lib.hid (below_step HBW5.out l5)
                  have HNW := Lib.hid (cells_new w4 (lnC y (.slice A6 y.after.length c6)).toList 62)
                  have hbase : w1.heap.size ≤ (w4.alloc (.cells (lnC y (.slice A6 y.after.length c6)) 62)).heap.size := HBW6.out.size
                  have hys8 : ys.length ≤ 8 := HY8.out
                  obtain ⟨i1, hi1, hy0, hy1, hy2⟩ := info_all info_line
                  clear l5
                  go_wp2_with (at_builtin; refine wpList_append_own _ rfl (.tmp 104) (.tmp 106) 60 rfl w1.heap.size 62 i1 _ 8 104 Tryz.underlying60 hi1 hy0 hy1 hy2 rfl (by omega) (.slice A8 ys.length c8) ys.length _ rfl HPA6.out.rows ⟨w4.heap.size, 0, none⟩ 1 1 (lnC y (.slice A6 y.after.length c6)).toList rfl rfl HNW.out (by simp [Value.oneCell', lnC]) (by unfold maxLen; omega) (by omega) hbase ?_; intro v6 w6 hown6 hg6 _; have HPA7 := Lib.hid (HPA6.out.row HAF6.out hg6 hown6); have HBW7 := Lib.hid (HBW6.out.grown hg6 HBW6.out.size (fun g e => (own_tag HPA6.out.rows e).1)); clear hown6 hg6)
                  go_roundw
                  case rel =>
                    refine ⟨k + 1, ys ++ [(y, .slice A6 y.after.length c6)], ns ++ [y.name], by go_num, by omega, hlt, ?_, by have h := HPA7.out; rw [List.length_append] at h; exact h, by rw [HNS.out, List.map_append]; rfl, by have := HNL.out; simp; omega, fun z hz => ?_, HBW7.out⟩
                    · rw [HV.out, List.map_append]; rfl
                    · rcases List.mem_append.1 hz with hz | hz
                      · exact HYA.out z hz
                      · obtain rfl := List.mem_singleton.1 hz
                        omega
                  case measure => simp [intOf]; omega
              · have hke : k = L.length := by omega
                have hlk : ¬ (k : Int) < (L.length : Int) := by omega
                have HE := Lib.hid (show r = endL b.t s.size (.inr (ys.map (fun y => y.1))) by rw [HRR.out, List.drop_eq_nil_of_le (by omega : L.length ≤ k), linesP])
                by_cases hyn : ys = []
                · have HV := Lib.hid (show r = .inl ⟨6, s.size⟩ by rw [HE.out, hyn]; rfl)
                  have hyl : (ys.length : Int) = 0 := by rw [hyn]; rfl
                  clear hyn
                  have rf := freeH HPA.out.res
                  have r0 := cellH HPA.out.res 0
                  have r1 := cellH HPA.out.res 1
                  simp at r0 r1 rf
                  go_wp2_with fail
                  show bodyPost _ _ _ _ _ (set2 wr w.heap.size ⟨#[]⟩ (.slice none 0 0))
                  obtain ⟨hz, hb⟩ := fin2 HPA.out.res rfl HPA.out.low ⟨#[]⟩ (.slice none 0 0)
                  generalize (set2 wr w.heap.size ⟨#[]⟩ (.slice none 0 0)) = W9 at hz hb ⊢
                  refine bodyPost_ret (results_cell3 (fn := Tryz.f9) rfl _ _ w.heap.size 25 #[.string ⟨#[]⟩, (.slice none 0 0)] (0, 0) _ rfl hz Tryz.underlying25 rfl info_pi) rfl ⟨hb, ?_⟩
                  rw [HV.out]
                  exact rfl
                · have hyl : ((ys.length : Int) == 0) = false := beq_eq_false_iff_ne.2 (by have := List.length_pos_iff.2 hyn; omega)
                  have HT := Lib.hid (show r = endT b.t (tasksP ((ys.map (fun y => y.1)).map (·.name)) [] (ys.map (fun y => y.1))) by rw [HE.out, endL_some (by simpa using hyn)])
                  clear hyn HE HRR
                  obtain ⟨hu0, hp0, hab, hbb⟩ := HU.out
                  have u0 := cell_later HBW.out hu0
                  have p0 := cell_later HBW.out hp0
                  obtain ⟨g, c7, e7, hpc⟩ := HPA.out.start (by intro e; rw [e] at hyl; exact absurd hyl (by simp)) b.t
                  injection e7 with e7 _ e7c
                  subst e7 e7c
                  have HPC := Lib.hid hpc
                  have hfew : ys.length ≤ 8 := HY8.out
                  have HNL2 := Lib.hid (show ns.length ≤ 8 by have := HNL.out; omega)
                  obtain ⟨xs, hxs⟩ : ∃ xs, xs = ys.map (fun y => y.1) := ⟨_, rfl⟩
                  have HXL := Lib.hid (show xs.length = ys.length by rw [hxs, List.length_map])
                  have HXA := Lib.hid (show ∀ y ∈ xs, y.after.length ≤ 1001 from fun y hy => by
                    rw [hxs] at hy
                    obtain ⟨z, hz, rfl⟩ := List.mem_map.1 hy
                    exact HYA.out z hz)
                  have HZX := Lib.hid (show (ys.map (fun y => (y.1, y.2, (Value.slice none 0 0)))).map (·.1) = xs by rw [hxs, List.map_map]; rfl)
                  have HZN := Lib.hid (show ∀ (j : Nat) (z : LnP × Value × Value), 0 ≤ j → (ys.map (fun y => (y.1, y.2, (Value.slice none 0 0))))[j]? = some z → z.2.2 = .slice none 0 0 from fun j z _ hz => by
                    obtain ⟨y, _, rfl⟩ := List.mem_map.1 (List.mem_of_getElem? hz)
                    rfl)
                  have HRT := Lib.hid (show r = endT b.t (tasksP ns [] (xs.drop 0)) by rw [HT.out, hxs, HNS.out, List.map_map]; rfl)
                  generalize ys.map (fun y => (y.1, y.2, (Value.slice none 0 0))) = zs0 at HPC HZX HZN
                  clear hpc hu0 hp0 HPA HT hxs HNS HNL HYA HY8 HTX
                  go_upto_region 25 with fail
                  generalize hW2 : wr.alloc (.cells #[.string b.t, .slice none 0 0] 25) = W2 at *
                  generalize hP : wr.heap.size = P at *
                  clear hW2 u0 p0 hab hbb
                  go_wp2_with fail
                  go_loopw [15] (fun iv wo => ∃ (i : Nat) (zs : List (LnP × Value × Value)) (qs : List (TkP × Value)) (vt : Value) (lb : Nat), iv = .int .i64 i ∧ i ≤ ys.length ∧ qs.length = i ∧ zs.map (·.1) = xs ∧ (∀ (j : Nat) (z : LnP × Value × Value), i ≤ j → zs[j]? = some z → z.2.2 = .slice none 0 0) ∧ r = endT b.t (tasksP ns (qs.map (·.1)) (xs.drop i)) ∧ PcW w w1.heap.size P g lb b.t ns (.slice A9 ns.length c9) zs qs vt wo) (fun i _ => ys.length - (intOf i).toNat)
                  case atStart => exact ⟨0, zs0, [], _, _, rfl, Nat.zero_le _, rfl, HZX.out, HZN.out, HRT.out, HPC.out⟩
                  case round =>
                    obtain ⟨i, zs, qs, vt, lb, rfl, hiy, hql, hzx, hzn, hrt, hpc⟩ := hrel
                    have HQL := Lib.hid hql
                    have HZX := Lib.hid hzx
                    have HZN := Lib.hid hzn
                    have HRT := Lib.hid hrt
                    have HPC := Lib.hid hpc
                    obtain ⟨A11, c11, rfl⟩ := own_slice hpc.tasks
                    clear hql hzx hzn hrt hpc
                    by_cases hlt2 : i < ys.length
                    · obtain ⟨y, hy⟩ : ∃ y, xs[i]? = some y := ⟨_, List.getElem?_eq_getElem (by have := HXL.out; omega)⟩
                      have HY := Lib.hid hy
                      obtain ⟨z, hz⟩ : ∃ z, zs[i]? = some z := ⟨_, List.getElem?_eq_getElem (by have := HXL.out; rw [← HZX.out, List.length_map] at this; omega)⟩
                      obtain ⟨y', av, iv⟩ := z
                      obtain rfl : y' = y := by
                        have h := HZX.out ▸ hy
                        rw [List.getElem?_map, hz] at h
                        simpa using h
                      obtain rfl : iv = .slice none 0 0 := HZN.out i _ (Nat.le_refl _) hz
                      have HZ := Lib.hid hz
                      have hya := HXA.out _ (List.mem_of_getElem? hy)
                      obtain ⟨Aw, cw, hav, _⟩ := HPC.out.afts _ (List.mem_of_getElem? hz)
                      dsimp only at hav
                      subst hav
                      have HSET := Lib.hid (show zs.set i (y', .slice Aw y'.after.length cw, .slice none 0 0) = zs from by
                        obtain ⟨hi, e⟩ := List.getElem?_eq_some_iff.1 hz
                        rw [← e]
                        exact List.set_getElem_self hi)
                      have HP0 := Lib.hid (show PcW w w1.heap.size P g lb b.t ns (.slice A9 ns.length c9) (zs.set i (y', .slice Aw y'.after.length cw, .slice none 0 0)) qs (.slice A11 qs.length c11) wr by rw [HSET.out]; exact HPC.out)
                      clear hy hz HPC
                      have hi0 : (0 : Int) ≤ (i : Int) := by omega
                      have hil : (i : Int) < (ys.length : Int) := by omega
                      go_wp2_with fail
                      go_loopw [16] (fun kv wo => ∃ (k : Nat) (acc : List Nat) (iv : Value), kv = .int .i64 k ∧ k ≤ y'.after.length ∧ acc.length = k ∧ placesP ns [] y'.after = placesP ns acc (y'.after.drop k) ∧ PcW w w1.heap.size P g lb b.t ns (.slice A9 ns.length c9) (zs.set i (y', .slice Aw y'.after.length cw, iv)) qs (.slice A11 qs.length c11) wo ∧ wo.ownsRow lb 3 1 iv acc.length (acc.map (fun n => Value.int .i64 (n : Nat)))) (fun i _ => y'.after.length - (intOf i).toNat)
                      case atStart => exact ⟨0, [], _, rfl, Nat.zero_le _, rfl, rfl, HP0.out, World.ownsRow_nil _ _ _ _⟩
                      case round =>
                        obtain ⟨k2, acc, iv, rfl, hky, hal, hpl, hpc, hown⟩ := hrel
                        have HAL := Lib.hid hal
                        have HPL := Lib.hid hpl
                        have HPC := Lib.hid hpc
                        have HOWN := Lib.hid hown
                        obtain ⟨A12, c12, rfl⟩ := own_slice hown
                        clear hal hpl hpc hown HP0 HSET
                        have hzi : (zs.set i (y', .slice Aw y'.after.length cw, .slice A12 acc.length c12))[i]? = some (y', .slice Aw y'.after.length cw, .slice A12 acc.length c12) := by
                          rw [List.getElem?_set_self (List.getElem?_eq_some_iff.1 HZ.out).1]
                        have HZI := Lib.hid hzi
                        have zc := HPC.out.cell hzi
                        have Z1 := zc 1 _ rfl
                        have Z7 := zc 7 _ rfl
                        clear hzi zc
                        by_cases hlk2 : k2 < y'.after.length
                        · obtain ⟨wd, hwd⟩ : ∃ wd, y'.after[k2]? = some wd := ⟨_, List.getElem?_eq_getElem hlk2⟩
                          have HWD := Lib.hid hwd
                          obtain ⟨A13, c13, e13, hR⟩ := HPC.out.afts _ (List.mem_of_getElem? HZI.out)
                          dsimp only at e13 hR
                          injection e13 with e13 _ e13c
                          subst e13 e13c
                          obtain ⟨ad2, eA2, q0, q1⟩ := hR.wds.at_ hwd
                          subst eA2
                          have l1 := (Below.refl wr.heap.size wr).alloc (Nat.le_refl _) (.cells #[.string wd.t, .int .i64 wd.p] 57)
                          have HPC2 := Lib.hid (HPC.out.later l1)
                          have HO2 := Lib.hid (own_agree HOWN.out (fun q _ hq => l1.block q hq))
                          have HD2 := Lib.hid (made_at wr (.cells #[.string wd.t, .int .i64 wd.p] 57))
                          obtain ⟨A14, c14, e14, hTX⟩ := own_texts HPC2.out.names
                          injection e14 with e14 _ e14c
                          subst e14 e14c
                          obtain ⟨fn, hfn⟩ : ∃ fn, fn = findP ns wd.t := ⟨_, rfl⟩
                          have RF := Lib.hid (find_is (c := c9) hTX (by have := HNL2.out; omega) wd.t)
                          rw [← hfn] at RF
                          have HFN := Lib.hid hfn.symm
                          clear hfn hTX hR hwd l1
                          have hk0 : (0 : Int) ≤ (k2 : Int) := by omega
                          have hkl2 : (k2 : Int) < (y'.after.length : Int) := by omega
                          go_wp2_with fail
                          refine RF.out.mono ?_
                          rintro e w3 ⟨rfl, hw3⟩
                          subst hw3
                          clear RF
                          cases fn with
                          | none =>
                            have HV := Lib.hid (show r = .inl ⟨6, wd.p⟩ by
                              rw [HRT.out, drop_any HY.out, tasks_bad (f := ⟨6, wd.p⟩) (by rw [HPL.out, drop_any HWD.out, places_bad HFN.out])]
                              rfl)
                            dsimp only [idxI]
                            have hDR : wr.heap.size ≠ w.heap.size := by have := HPC.out.base; omega
                            have rf := freeH HPC2.out.res
                            have r0 := cellH HPC2.out.res 0
                            have r1 := cellH HPC2.out.res 1
                            have d1 := cellH HD2.out 1
                            simp at r0 r1 rf d1
                            go_upto_region 34 with fail
                            go_region
                            go_wp2_with fail
                            show bodyPost _ _ _ _ _ (set2 (wr.alloc (.cells #[.string wd.t, .int .i64 wd.p] 57)) w.heap.size ⟨#[]⟩ (.slice none 0 0)).drew
                            obtain ⟨hz, hb⟩ := fin2 HPC2.out.res rfl HPC2.out.low ⟨#[]⟩ (.slice none 0 0)
                            replace hz := drew_row hz
                            replace hb := hb.drew
                            generalize (set2 (wr.alloc (.cells #[.string wd.t, .int .i64 wd.p] 57)) w.heap.size ⟨#[]⟩ (.slice none 0 0)).drew = W9 at hz hb ⊢
                            refine bodyPost_ret (results_cell3 (fn := Tryz.f9) rfl _ _ w.heap.size 25 #[.string ⟨#[]⟩, (.slice none 0 0)] (0, 0) _ rfl hz Tryz.underlying25 rfl info_pi) rfl ⟨hb, ?_⟩
                            rw [HV.out]
                            exact rfl
                          | some n =>
                            dsimp only [idxI]
                            have hn0 : ¬ (n : Int) < 0 := by omega
                            have HPL2 := Lib.hid (show placesP ns [] y'.after = placesP ns (acc ++ [n]) (y'.after.drop (k2 + 1)) by rw [HPL.out, drop_any HWD.out, places_good HFN.out])
                            clear HPL HFN HWD Z1 Z7 q0 q1 HPC HOWN
                            go_upto_region 35 with fail
                            generalize hW3 : wr.alloc (.cells #[.string wd.t, .int .i64 wd.p] 57) = w3 at *
                            clear hW3 HD2
                            have zc := HPC2.out.cell HZI.out
                            have Z1 := zc 1 _ rfl
                            have l3 := (Below.refl w3.heap.size w3).alloc (Nat.le_refl _) (.cells #[.int .i64 n] 3)
                            have HPC3 := Lib.hid (HPC2.out.later l3)
                            have HO3 := Lib.hid (own_agree HO2.out (fun q _ hq => l3.block q hq))
                            have HNW := Lib.hid (cells_new w3 [.int .i64 n] 3)
                            have hbase : lb ≤ (w3.alloc (.cells #[.int .i64 n] 3)).heap.size := HPC3.out.base.2.2.2.2
                            obtain ⟨i3, hi3, hx0, hx1, hx2⟩ := info_all info_int
                            clear l3 zc
                            go_wp2_with (at_builtin; refine wpList_append_own _ rfl (.tmp 161) (.tmp 163) 42 rfl lb 3 i3 _ 1 8 Tryz.underlying42 hi3 hx0 hx1 hx2 rfl (by omega) (.slice A12 acc.length c12) acc.length (acc.map (fun n => Value.int .i64 (n : Nat))) rfl HO3.out ⟨w3.heap.size, 0, none⟩ 1 1 [.int .i64 n] rfl rfl HNW.out (by simp [Value.oneCell']) (by have := HAL.out; unfold maxLen; omega) (by have := HAL.out; omega) hbase ?_; intro v4 w4 hown4 hg4 _; obtain ⟨A15, c15, rfl⟩ := own_slice hown4; have HPC4 := Lib.hid (HPC3.out.int HO3.out hg4); have HO4 := Lib.hid hown4; have Z4 := HPC4.out.cell HZI.out 1 _ rfl; have zf := HPC4.out.free; clear hown4 hg4)
                            have HPC5 := Lib.hid (HPC4.out.put HZI.out (.slice A15 (acc.length + 1) c15))
                            have HO5 := Lib.hid (own_frame (W' := w4.setCell ⟨g, i * 8 + 1, none⟩ (.slice A15 (acc.length + 1) c15)) HO4.out (fun q cur _ hq => row_keep (fun e => by
                              subst e
                              obtain ⟨_, h1, _⟩ := HPC4.out.row
                              exact absurd (tag_ne hq h1) (by decide))))
                            go_roundw
                            case rel => exact ⟨k2 + 1, acc ++ [n], .slice A15 (acc.length + 1) c15, by go_num, hlk2, by rw [List.length_append, HAL.out]; rfl, HPL2.out, by have h := HPC5.out; rw [List.set_set] at h; exact h, by rw [List.length_append, List.map_append]; exact HO5.out⟩
                            case measure => simp [intOf]; omega
                        · have hke2 : ¬ (k2 : Int) < (y'.after.length : Int) := by omega
                          have HT3 := Lib.hid (show r = endT b.t (tasksP ns (qs.map (·.1) ++ [⟨y'.name, acc, y'.retry, y'.time, y'.need, y'.lv, y'.st⟩]) (xs.drop (i + 1))) by
                            rw [HRT.out, drop_any HY.out, tasks_good (p := acc) (by rw [HPL.out, List.drop_eq_nil_of_le (by omega : y'.after.length ≤ k2), placesP])])
                          obtain ⟨A16, c16, e16, hNR, hcp⟩ := nats_own HOWN.out
                          injection e16 with e16 _ e16c
                          subst e16 e16c
                          have zc := HPC.out.cell HZI.out
                          have Z0 : wr.cell? ⟨g, i * 8, none⟩ = some (.string y'.name) := zc 0 _ rfl
                          have Z2 := zc 2 _ rfl
                          have Z3 := zc 3 _ rfl
                          have Z4 := zc 4 _ rfl
                          have Z5 := zc 5 _ rfl
                          have Z6 := zc 6 _ rfl
                          have P1 := cellH HPC.out.pip 1
                          simp at P1
                          have pf := freeH HPC.out.pip
                          have HNR := Lib.hid hNR
                          have HCP := Lib.hid hcp
                          clear hcp
                          have l4 := (Below.refl wr.heap.size wr).alloc (Nat.le_refl _) (.cells #[.string y'.name, .slice A12 acc.length c12, .int .i64 y'.retry, .int .i64 y'.time, .int .i64 y'.need, .int .i64 y'.lv, .int .u16 y'.st] 47)
                          have HPC4 := Lib.hid (HPC.out.later l4.drew)
                          have HNR4 := Lib.hid (hNR.frame (w' := (wr.alloc (.cells #[.string y'.name, .slice A12 acc.length c12, .int .i64 y'.retry, .int .i64 y'.time, .int .i64 y'.need, .int .i64 y'.lv, .int .u16 y'.st] 47)).drew) (lb' := (wr.alloc (.cells #[.string y'.name, .slice A12 acc.length c12, .int .i64 y'.retry, .int .i64 y'.time, .int .i64 y'.need, .int .i64 y'.lv, .int .u16 y'.st] 47)).drew.heap.size) l4.drew.size (fun g _ _ hg => l4.drew.block g (Array.getElem?_eq_some_iff.1 hg).1))
                          have HNW := Lib.hid (show ∀ j u, ([.string y'.name, .slice A12 acc.length c12, .int .i64 y'.retry, .int .i64 y'.time, .int .i64 y'.need, .int .i64 y'.lv, .int .u16 y'.st] : List Value)[j]? = some u → (wr.alloc (.cells #[.string y'.name, .slice A12 acc.length c12, .int .i64 y'.retry, .int .i64 y'.time, .int .i64 y'.need, .int .i64 y'.lv, .int .u16 y'.st] 47)).drew.cell? ((⟨wr.heap.size, 0, none⟩ : Addr).add j) = some u from cells_new wr [.string y'.name, .slice A12 acc.length c12, .int .i64 y'.retry, .int .i64 y'.time, .int .i64 y'.need, .int .i64 y'.lv, .int .u16 y'.st] 47)
                          have hbase : w1.heap.size ≤ (wr.alloc (.cells #[.string y'.name, .slice A12 acc.length c12, .int .i64 y'.retry, .int .i64 y'.time, .int .i64 y'.need, .int .i64 y'.lv, .int .u16 y'.st] 47)).drew.heap.size := by have := HPC4.out.base; omega
                          have Q1 : (wr.alloc (.cells #[.string y'.name, .slice A12 acc.length c12, .int .i64 y'.retry, .int .i64 y'.time, .int .i64 y'.need, .int .i64 y'.lv, .int .u16 y'.st] 47)).cell? ⟨P, 1, none⟩ = some (.slice A11 qs.length c11) := cell_later ((Below.refl wr.heap.size wr).alloc (Nat.le_refl _) (.cells #[.string y'.name, .slice A12 acc.length c12, .int .i64 y'.retry, .int .i64 y'.time, .int .i64 y'.need, .int .i64 y'.lv, .int .u16 y'.st] 47)) P1
                          obtain ⟨i5, hi5, hv0, hv1, hv2⟩ := info_all info_task
                          clear hNR zc l4 HNR
                          go_upto_region 36 with fail
                          go_region_law (refine step_append_own _ rfl (.tmp 169) (.tmp 175) 23 rfl w1.heap.size 47 i5 _ 7 80 Tryz.underlying23 hi5 hv0 hv1 hv2 rfl (by omega) (.slice A11 qs.length c11) qs.length (qs.flatMap (fun q : TkP × Value => tkC q.1 q.2)) (by simp [Act.eval]) HPC4.out.tasks ⟨wr.heap.size, 0, none⟩ 1 1 [.string y'.name, .slice A12 acc.length c12, .int .i64 y'.retry, .int .i64 y'.time, .int .i64 y'.need, .int .i64 y'.lv, .int .u16 y'.st] (by simp [Act.eval]) rfl HNW.out (by simp [Value.oneCell']) (by have := HQL.out; unfold maxLen; omega) (by have := HQL.out; omega) hbase ?_; intro v5 w5 hown5 hg5 _; obtain ⟨A17, c17, rfl⟩ := own_slice hown5; have HPC5 := Lib.hid (HPC4.out.task (t := ⟨y'.name, acc, y'.retry, y'.time, y'.need, y'.lv, y'.st⟩) HNR4.out hg5 hown5 HCP.out); have HP5 := HPC4.out.pipG hg5; have R5 := cellH HP5 1; simp at R5; have f5 := freeH HP5; clear hown5 hg5 HP5)
                          all_goals
                            generalize hW6 : w5.setCell ⟨P, 1, none⟩ (.slice A17 (qs.length + 1) c17) = W6 at *
                            generalize hLB : (wr.alloc (.cells #[.string y'.name, .slice A12 acc.length c12, .int .i64 y'.retry, .int .i64 y'.time, .int .i64 y'.need, .int .i64 y'.lv, .int .u16 y'.st] 47)).drew.heap.size = LB at HPC5
                            clear hW6 hLB HPC4 HNR4 HNW Q1 Z0 Z1 Z2 Z3 Z4 Z5 Z6 Z7 P1 pf hbase HPC HOWN R5 f5 hi5 hv0 hv1 hv2
                            go_wp2_with fail
                            go_roundw
                            case rel =>
                              refine ⟨i + 1, zs.set i (y', .slice Aw y'.after.length cw, .slice A12 acc.length c12), qs ++ [(⟨y'.name, acc, y'.retry, y'.time, y'.need, y'.lv, y'.st⟩, .slice A12 acc.length c12)], .slice A17 (qs.length + 1) c17, LB, by go_num, hlt2, by rw [List.length_append, HQL.out]; rfl, ?_, ?_, ?_, HPC5.out⟩
                              · have h := HZX.out
                                rw [List.map_set, h]
                                obtain ⟨hi, e⟩ := List.getElem?_eq_some_iff.1 HY.out
                                rw [← e]
                                exact List.set_getElem_self hi
                              · intro j z hj hz
                                rw [List.getElem?_set_ne (by omega)] at hz
                                exact HZN.out j z (by omega) hz
                              · rw [HT3.out, List.map_append]
                                rfl
                            case measure => simp [intOf]; omega
                    · have hlt3 : ¬ (i : Int) < (ys.length : Int) := by omega
                      have HV := Lib.hid (show r = .inr ⟨b.t, qs.map (·.1)⟩ by
                        rw [HRT.out, List.drop_eq_nil_of_le (by have := HXL.out; omega), tasksP]
                        rfl)
                      obtain ⟨Af, cf, ef, hT⟩ := HPC.out.fin
                      have HT9 := Lib.hid hT
                      have HEF := Lib.hid ef
                      have P0 := cellH HPC.out.pip 0
                      have P1 := cellH HPC.out.pip 1
                      have rf := freeH HPC.out.res
                      have r0 := cellH HPC.out.res 0
                      have r1 := cellH HPC.out.res 1
                      simp at P0 P1 r0 r1 rf
                      clear hT ef
                      go_wp2_with fail
                      show bodyPost _ _ _ _ _ (set2 wr w.heap.size b.t (.slice A11 qs.length c11))
                      obtain ⟨hz, hb⟩ := fin2 HPC.out.res rfl HPC.out.low b.t (.slice A11 qs.length c11)
                      have hT := HT9.out
                      generalize (set2 wr w.heap.size b.t (.slice A11 qs.length c11)) = W9 at hz hb hT ⊢
                      refine bodyPost_ret (results_cell3 (fn := Tryz.f9) rfl _ _ w.heap.size 25 #[.string b.t, .slice A11 qs.length c11] (0, 0) _ rfl hz Tryz.underlying25 rfl info_pi) rfl ⟨hb, ?_⟩
                      rw [HV.out]
                      exact ⟨Af, cf, congrArg (fun v => Ending.returned (.tuple #[.agg #[.string b.t, v], .int .i64 0, .int .i64 0])) HEF.out, hT⟩
        · have h2' : ¬ (l0.length : Int) = 2 := by omega
          have HV := Lib.hid (show r = .inl ⟨3, a.p⟩ from HR.out.trans (parse_3 HLD.out HA0.out HP.out h2))
          have u0s := (set2_cell hab ⟨#[]⟩ (.slice none 0 0)).trans u0
          unfold set2 at u0s

          go_upto_region 9 with fail
          go_region
          go_wp2_with fail
          show bodyPost _ _ _ _ _ (set2 w1 w.heap.size ⟨#[]⟩ (.slice none 0 0)).drew
          obtain ⟨hz, hb⟩ := fin2 HZ1.out rfl HB1.out ⟨#[]⟩ (.slice none 0 0)
          replace hz := drew_row hz
          replace hb := hb.drew
          generalize (set2 w1 w.heap.size ⟨#[]⟩ (.slice none 0 0)).drew = W9 at hz hb ⊢
          refine bodyPost_ret (results_cell3 (fn := Tryz.f9) rfl _ _ w.heap.size 25 #[.string ⟨#[]⟩, (.slice none 0 0)] (0, 0) _ rfl hz Tryz.underlying25 rfl info_pi) rfl ⟨hb, ?_⟩
          rw [HV.out]
          exact rfl

      · have HV := Lib.hid (show r = .inl ⟨17, a.p⟩ from HR.out.trans (parse_17 HLD.out HA0.out hp))
        have q2 : (a.t.toList == [112, 105, 112, 101]) = false := (ba_list (t := sPipe) rfl).trans (decide_eq_false hp)
        clear hp
        have u0s := (set2_cell hab ⟨#[]⟩ (.slice none 0 0)).trans u0
        unfold set2 at u0s

        go_upto_region 7 with fail
        go_region
        go_wp2_with fail
        show bodyPost _ _ _ _ _ (set2 w1 w.heap.size ⟨#[]⟩ (.slice none 0 0)).drew
        obtain ⟨hz, hb⟩ := fin2 HZ1.out rfl HB1.out ⟨#[]⟩ (.slice none 0 0)
        replace hz := drew_row hz
        replace hb := hb.drew
        generalize (set2 w1 w.heap.size ⟨#[]⟩ (.slice none 0 0)).drew = W9 at hz hb ⊢
        refine bodyPost_ret (results_cell3 (fn := Tryz.f9) rfl _ _ w.heap.size 25 #[.string ⟨#[]⟩, (.slice none 0 0)] (0, 0) _ rfl hz Tryz.underlying25 rfl info_pi) rfl ⟨hb, ?_⟩
        rw [HV.out]
        exact rfl

end Go.Proofs.YtcfnmjhelhdobaaGreatDoor
