/-
  The program's alone and Check: what they answer of any few pipeline, over what manifest.Right answers of it. No further conditions. The program's Targets, of a pipeline that may be; Check where there is no roster. No further conditions.
-/
import Derived.Test.YtcddbpdebklhnaaGreatDoorChkB
import Derived.Test.YtcddbpdebklhnaaGreatDoorOrdG
namespace Go.Proofs.YtcddbpdebklhnaaGreatDoor
open Go.RowKit

/-- The first task that comes behind itself; -1: none. -/
def roundI (n : ByteArray) (ts : List TkI) : Int := roundP ⟨n, ts.map TkI.toP⟩
theorem RightI.nonneg {n : ByteArray} {ts : List TkI} (h : RightI n ts) : ∀ t ∈ ts, ∀ v ∈ t.after, 0 ≤ v := fun t ht v hv => by
  obtain ⟨i, hi, rfl⟩ := List.getElem_of_mem ht
  obtain ⟨j, hj, rfl⟩ := List.getElem_of_mem hv
  exact ((h.task i _ (List.getElem?_eq_getElem hi)).1.aft j _ (List.getElem?_eq_getElem hj)).1
/-- What is asked of manifest.Right: one bool, of which Pb holds. -/
def RtOut (Pb : Bool → Prop) (w : World) (e : Ending) (w' : World) : Prop := (∃ b, e = .returned (.bool b) ∧ Pb b) ∧ Below w.heap.size w w'
/-- What alone answers. -/
def AlnOut (Pb : Bool → Prop) (n : ByteArray) (ts : List TkI) (w : World) (e : Ending) (w' : World) : Prop := Below w.heap.size w w' ∧
  ((Pb false ∧ ∃ F, e = .returned (fltV F) ∧ FaultAt w' F (-1) 1) ∨ (Pb true ∧ 0 ≤ roundI n ts ∧ ∃ F, e = .returned (fltV F) ∧ FaultAt w' F (roundI n ts) 14) ∨ (Pb true ∧ roundI n ts < 0 ∧ e = .returned .nilIface))
section
variable {w : World} {A : Option Addr} {c : Nat} {n : ByteArray} {ts : List TkI}
theorem roundI_is (hA : TksI w A ts) (hR : RightI n ts) (hs : ∀ t ∈ ts, 0 ≤ t.st ∧ t.st ≤ 65535) :
    Calls Tryz.prog 45 #[.agg #[.string n, .slice A ts.length c]] w fun e w' => e = .returned (.int .i64 (roundI n ts)) ∧ Below w.heap.size w w' := by
  have h := oround_is (c := c) (n := n) (hA.tks hR.nonneg) (hR.right hs)
  rw [List.length_map] at h
  exact h
theorem rightI_yes (hA : TksI w A ts) (hR : RightI n ts) (hs : ∀ t ∈ ts, 0 ≤ t.st ∧ t.st ≤ 65535) :
    Calls Tryz.prog 44 #[.agg #[.string n, .slice A ts.length c]] w (RtOut (fun b => b = true) w) := by
  have h := mright_is (c := c) (p := ⟨n, ts.map TkI.toP⟩) (hA.tks hR.nonneg) (hR.right hs)
  simp only [List.length_map] at h
  refine h.mono ?_
  rintro e w' ⟨rfl, hb⟩
  exact ⟨⟨true, rfl, rfl⟩, hb⟩
theorem rightI_may (hA : TksI w A ts) (hF : FewI n ts) :
    Calls Tryz.prog 44 #[.agg #[.string n, .slice A ts.length c]] w (RtOut (fun b => b = true → RightI n ts) w) := (mrighti_is hA hF).mono fun _ _ h => h
set_option maxHeartbeats 2000000 in
set_option maxRecDepth 100000 in
theorem calone_is {Pb : Bool → Prop} (hA : TksI w A ts) (hs : ∀ t ∈ ts, 0 ≤ t.st ∧ t.st ≤ 65535)
    (hRt : ∀ W, Below w.heap.size w W → Calls Tryz.prog 44 #[.agg #[.string n, .slice A ts.length c]] W (RtOut Pb W)) (hRi : Pb true → RightI n ts) :
    Calls Tryz.prog 24 #[.agg #[.string n, .slice A ts.length c]] w (AlnOut Pb n ts w) := by
  have b0 := (Below.refl w.heap.size w).alloc (Nat.le_refl _) (.cells #[.string n, .slice A ts.length c] 24)
  have HX := Lib.hid (made_at w (.cells #[.string n, .slice A ts.length c] 24))
  have HB0 := Lib.hid b0
  have HRT := Lib.hid hRt
  have HRD := Lib.hid (fun (W : World) (hb : Below w.heap.size w W) (h : Pb true) => roundI_is (c := c) (hA.later hb) (hRi h) hs)
  obtain ⟨r, hr⟩ : ∃ r, r = roundI n ts := ⟨_, rfl⟩
  unfold AlnOut
  rw [← hr] at HRD ⊢
  clear b0 hA hs hRt hRi hr
  go_enter Tryz.func24, Tryz.ntmps24
  go_upto_region 1 with fail
  generalize hW0 : (w.alloc (.cells #[.string n, .slice A ts.length c] 24)) = W0 at *
  clear hW0
  have x0 := cellH HX.out 0
  have x1 := cellH HX.out 1
  simp at x0 x1
  go_wp2_with fail
  refine (HRT.out _ HB0.out).mono ?_
  rintro e w1 ⟨⟨b, rfl, hPb⟩, hb1⟩
  have HB1 := Lib.hid (below_step HB0.out hb1)
  have HX1 := Lib.hid (later_at hb1 HX.out)
  have HPB := Lib.hid hPb
  clear hb1 x0 x1 HX HB0 hPb HRT
  cases b with
  | false =>
    go_wp2_with fail
    refine (cfault_is _ _ _).mono ?_
    rintro e w2 ⟨F, rfl, hF, _, hb2⟩
    have HF := Lib.hid hF
    have HB2 := Lib.hid (below_step HB1.out hb2)
    clear hF hb2
    unfold fltV
    go_wp2_with fail
    go_ret
    exact ⟨HB2.out, .inl ⟨HPB.out, F, rfl, HF.out⟩⟩
  | true =>
    have x0 := cellH HX1.out 0
    have x1 := cellH HX1.out 1
    simp at x0 x1
    go_wp2_with fail
    refine (HRD.out _ HB1.out HPB.out).mono ?_
    rintro e w2 ⟨rfl, hb2⟩
    have HB2 := Lib.hid (below_step HB1.out hb2)
    clear hb2 x0 x1 HX1 HB1 HRD
    by_cases h0 : 0 ≤ r
    · have H0 := Lib.hid h0
      go_wp2_with fail
      refine (cfault_is _ _ _).mono ?_
      rintro e w3 ⟨F, rfl, hF, _, hb3⟩
      have HF := Lib.hid hF
      have HB3 := Lib.hid (below_step HB2.out hb3)
      clear hF hb3
      unfold fltV
      go_wp2_with fail
      go_ret
      exact ⟨HB3.out, .inr (.inl ⟨HPB.out, H0.out, F, rfl, HF.out⟩)⟩
    · have H0 := Lib.hid h0
      go_wp2_with fail
      go_ret
      have h1 := H0.out
      exact ⟨HB2.out, .inr (.inr ⟨HPB.out, by omega, rfl⟩)⟩
end
/-- What Check answers. -/
def CkAns (Pb : Bool → Prop) (n : ByteArray) (ts : List TkI) (nl m : Nat) (lv st pt al au : Nat → Int) (part : Int) (tb : Bool) (w : World) (e : Ending) (w' : World) : Prop := Below w.heap.size w w' ∧
  ((e = .returned .nilIface ∧ tb = true ∧ Pb true ∧ roundI n ts < 0 ∧ ∀ t ∈ ts, t.need ≠ 0 → wrongV nl m lv st pt al au part t = 0) ∨
  (∃ F, e = .returned (fltV F) ∧ FaultAt w' F (-1) 1 ∧ (tb = false ∨ Pb false)) ∨
  (∃ F, e = .returned (fltV F) ∧ FaultAt w' F (roundI n ts) 14 ∧ tb = true ∧ 0 ≤ roundI n ts) ∨
  (∃ F k t, e = .returned (fltV F) ∧ FaultAt w' F (k : Nat) (wrongV nl m lv st pt al au part t) ∧ tb = true ∧ ts[k]? = some t ∧ t.need ≠ 0 ∧ wrongV nl m lv st pt al au part t ≠ 0))
set_option maxHeartbeats 8000000 in
set_option maxRecDepth 100000 in
theorem ccheck_is {w : World} {A : Option Addr} {c R nl m : Nat} {lv st pt al au : Nat → Int} {n : ByteArray} {ts : List TkI} {Pb : Bool → Prop} (part : Int) (hA : TksI w A ts) (hcp : ts.length ≤ c) (h20 : ts.length ≤ 20) (hs : ∀ t ∈ ts, 0 ≤ t.st ∧ t.st ≤ 65535)
    (hRt : ∀ W, Below w.heap.size w W → Calls Tryz.prog 44 #[.agg #[.string n, .slice A ts.length c]] W (RtOut Pb W)) (hRi : Pb true → RightI n ts) (hR : RosAt w R nl m lv st pt al au) :
    Calls Tryz.prog 9 #[.agg #[.string n, .slice A ts.length c], .pointer (some ⟨R, 0, none⟩), .int .i64 part] w (CkAns Pb n ts nl m lv st pt al au part (thereB part nl) w) := by
  have b0 := (Below.refl w.heap.size w).alloc (Nat.le_refl _) (.cells #[.string n, .slice A ts.length c] 24)
  have HX := Lib.hid (made_at w (.cells #[.string n, .slice A ts.length c] 24))
  have HB0 := Lib.hid b0
  have HR := Lib.hid (hR.later b0)
  have HA := Lib.hid hA
  have HAL := Lib.hid (fun (W : World) (hb : Below w.heap.size w W) => calone_is (Pb := Pb) (n := n) (c := c) (hA.later hb) hs (fun W' hb' => hRt W' (hb.trans (hb'.mono hb.size))) hRi)
  obtain ⟨tb, htb⟩ : ∃ tb, tb = thereB part nl := ⟨_, rfl⟩
  have HLB := Lib.hid (fun (W : World) (h : RosAt W R nl m lv st pt al au) => show Calls Tryz.prog 22 #[.pointer (some ⟨R, 0, none⟩), .int .i64 part] W (fun e w' => e = .returned (.tuple #[.agg #[.int .i64 (rlabV nl lv part), .int .u16 (rlabV nl st part)], .bool tb]) ∧ Below W.heap.size W w') from by rw [htb]; exact rlabel_is h part)
  rw [← htb]
  clear b0 hA hs hRt hRi hR htb
  go_enter Tryz.func9, Tryz.ntmps9
  go_upto_region 1 with fail
  generalize hW0 : (w.alloc (.cells #[.string n, .slice A ts.length c] 24)) = W0 at *
  clear hW0
  go_wp2_with fail
  refine (HLB.out _ HR.out).mono ?_
  rintro e w1 ⟨rfl, hb1⟩
  have hal := hb1.alloc hb1.size (.cells #[.int .i64 (rlabV nl lv part), .int .u16 (rlabV nl st part)] 41)
  have HB1 := Lib.hid (below_step HB0.out hal)
  have HX1 := Lib.hid (later_at hal HX.out)
  have HR1 := Lib.hid (HR.out.later hal)
  clear hb1 hal HX HB0 HR HLB
  go_upto_region 2 with fail
  generalize hW1 : (w1.alloc (.cells #[.int .i64 (rlabV nl lv part), .int .u16 (rlabV nl st part)] 41)) = W1 at *
  clear hW1
  cases tb with
  | false =>
    go_wp2_with fail
    refine (cfault_is _ _ _).mono ?_
    rintro e w2 ⟨F, rfl, hF, _, hb2⟩
    have HF := Lib.hid hF
    have HB2 := Lib.hid (below_step HB1.out hb2)
    clear hF hb2
    unfold fltV
    go_wp2_with fail
    go_ret
    unfold CkAns
    exact ⟨HB2.out, .inr (.inl ⟨F, rfl, HF.out, .inl rfl⟩)⟩
  | true =>
  have x0 := cellH HX1.out 0
  have x1 := cellH HX1.out 1
  simp at x0 x1
  go_wp2_with fail
  refine (HAL.out _ HB1.out).mono ?_
  rintro e w2 ⟨hb2, hout⟩
  have HB2 := Lib.hid (below_step HB1.out hb2)
  have HX2 := Lib.hid (later_at hb2 HX1.out)
  have HR2 := Lib.hid (HR1.out.later hb2)
  clear hb2 x0 x1 HX1 HR1 HB1 HAL
  rcases hout with ⟨hp, F, rfl, hF⟩ | ⟨hp, h0, F, rfl, hF⟩ | ⟨hp, h0, rfl⟩
  · have HF := Lib.hid hF
    have HP := Lib.hid hp
    clear hF hp
    unfold fltV
    go_wp2_with fail
    go_ret
    unfold CkAns
    exact ⟨HB2.out, .inr (.inl ⟨F, rfl, HF.out, .inr HP.out⟩)⟩
  · have HF := Lib.hid hF
    have HP := Lib.hid h0
    clear hF hp h0
    unfold fltV
    go_wp2_with fail
    go_ret
    unfold CkAns
    exact ⟨HB2.out, .inr (.inr (.inl ⟨F, rfl, HF.out, rfl, HP.out⟩))⟩
  · have HP := Lib.hid hp
    have H0 := Lib.hid h0
    have x1 := cellH HX2.out 1
    simp at x1
    clear hp h0
    go_wp2_with fail
    clear x1
    go_loopw [30] (fun i wr => ∃ k : Nat, i = .int .i64 k ∧ k ≤ ts.length ∧ Hid (Below w2.heap.size w2 wr) ∧ Hid (∀ j u, j < k → ts[j]? = some u → u.need ≠ 0 → wrongV nl m lv st pt al au part u = 0)) (fun i _ => ts.length - (intOf i).toNat)
    case atStart => exact ⟨0, rfl, Nat.zero_le _, Lib.hid (Below.refl _ _), Lib.hid (fun j _ hj => absurd hj (Nat.not_lt_zero _))⟩
    case round =>
      obtain ⟨k, rfl, hk, HBW, HWR⟩ := hrel
      by_cases hlt : k < ts.length
      · obtain ⟨t, ht⟩ : ∃ t, ts[k]? = some t := ⟨_, List.getElem?_eq_getElem hlt⟩
        obtain ⟨pa, B1, c1, rfl, p0, pj, hN1, hcp1⟩ := (HA.out.later (below_step HB2.out HBW.out)).at_ ht
        have p1 := pj 1 _ rfl
        have p2 := pj 2 _ rfl
        have p3 := pj 3 _ rfl
        have p4 := pj 4 _ rfl
        have p5 := pj 5 _ rfl
        have p6 := pj 6 _ rfl
        have hk0 : (0 : Int) ≤ (k : Int) := by omega
        have hkl : (k : Int) < (ts.length : Int) := by omega
        have hkc : (k : Int) < (c : Int) := by omega
        have hb1 := (Below.refl wr.heap.size wr).alloc (Nat.le_refl _) (.cells (tkiA t B1 c1) 43)
        have HT := Lib.hid (made_at wr (.cells (tkiA t B1 c1) 43))
        have HB3 := Lib.hid (below_step HBW.out hb1)
        have HTK := Lib.hid ht
        clear pj hN1 hcp1 hb1 ht
        unfold tkiA at HT
        go_upto_region 10 with fail
        generalize hW3 : (wr.alloc (.cells #[.string t.name, .slice B1 t.after.length c1, .int .i64 t.retry, .int .i64 t.time, .int .i64 t.need, .int .i64 t.lv, .int .u16 t.st] 43)) = W3 at *
        clear hW3 p0 p1 p2 p3 p4 p5 p6
        have y0 := cellH HT.out 0
        have y1 := cellH HT.out 1
        have y2 := cellH HT.out 2
        have y3 := cellH HT.out 3
        have y4 := cellH HT.out 4
        have y5 := cellH HT.out 5
        have y6 := cellH HT.out 6
        simp at y0 y1 y2 y3 y4 y5 y6
        go_wp2_with fail
        refine (cisgate_is _ _ _ _ _ _ _ _).mono ?_
        rintro e w4 ⟨rfl, hb4⟩
        have HB4 := Lib.hid (below_step HB3.out hb4)
        have HT4 := Lib.hid (later_at hb4 HT.out)
        clear hb4 y0 y1 y2 y3 y4 y5 y6 HT HB3
        by_cases hg : t.need = 0
        · have hg' : (t.need != 0) = false := by rw [bne_eq_false_iff_eq]; exact hg
          have HNX := Lib.hid (show ∀ j u, j < k + 1 → ts[j]? = some u → u.need ≠ 0 → wrongV nl m lv st pt al au part u = 0 from fun j u hj hu hn => by
            rcases Nat.lt_or_ge j k with h | h
            · exact HWR.out j u h hu hn
            · obtain rfl : j = k := by omega
              obtain rfl : t = u := Option.some.inj (HTK.out.symm.trans hu)
              exact absurd hg hn)
          clear hg
          go_wp2_with fail
          go_roundw
          case rel => exact ⟨k + 1, by go_num, by omega, HB4, HNX⟩
          case measure => simp [intOf]; omega
        · have hg' : (t.need != 0) = true := by rw [bne_iff_ne]; exact hg
          have HG := Lib.hid hg
          clear hg
          obtain ⟨x, hx⟩ : ∃ x, x = wrongV nl m lv st pt al au part t := ⟨_, rfl⟩
          have hwr := cwrong_is (HR2.out.later HB4.out) t B1 c1 part
          rw [← hx] at hwr
          have HWG := Lib.hid hwr
          have HXX := Lib.hid hx
          clear hwr hx
          unfold tkiA at HWG
          have y0 := cellH HT4.out 0
          have y1 := cellH HT4.out 1
          have y2 := cellH HT4.out 2
          have y3 := cellH HT4.out 3
          have y4 := cellH HT4.out 4
          have y5 := cellH HT4.out 5
          have y6 := cellH HT4.out 6
          simp at y0 y1 y2 y3 y4 y5 y6
          go_wp2_with fail
          refine HWG.out.mono ?_
          rintro e w5 ⟨rfl, hb5⟩
          have HB5 := Lib.hid (below_step HB4.out hb5)
          clear hb5 y0 y1 y2 y3 y4 y5 y6 HWG HB4 HT4
          by_cases hx0 : x = 0
          · have hx' : (x != 0) = false := by rw [bne_eq_false_iff_eq]; exact hx0
            have HNX := Lib.hid (show ∀ j u, j < k + 1 → ts[j]? = some u → u.need ≠ 0 → wrongV nl m lv st pt al au part u = 0 from fun j u hj hu hn => by
              rcases Nat.lt_or_ge j k with h | h
              · exact HWR.out j u h hu hn
              · obtain rfl : j = k := by omega
                obtain rfl : t = u := Option.some.inj (HTK.out.symm.trans hu)
                exact HXX.out.symm.trans hx0)
            clear hx0
            go_wp2_with fail
            go_roundw
            case rel => exact ⟨k + 1, by go_num, by omega, HB5, HNX⟩
            case measure => simp [intOf]; omega
          · have hx' : (x != 0) = true := by rw [bne_iff_ne]; exact hx0
            have HX0 := Lib.hid hx0
            clear hx0
            go_wp2_with fail
            refine (cfault_is _ _ _).mono ?_
            rintro e w6 ⟨F, rfl, hF, _, hb6⟩
            have HF := Lib.hid hF
            have HB6 := Lib.hid (below_step HB5.out hb6)
            clear hF hb6
            unfold fltV
            go_wp2_with fail
            go_ret
            unfold CkAns
            refine ⟨below_step HB2.out HB6.out, .inr (.inr (.inr ⟨F, k, t, rfl, ?_, rfl, HTK.out, HG.out, ?_⟩))⟩
            · rw [← HXX.out]; exact HF.out
            · rw [← HXX.out]; exact HX0.out
      · obtain rfl : k = ts.length := by omega
        have hlk : ¬ (ts.length : Int) < (ts.length : Int) := by omega
        go_wp2_with fail
        go_ret
        unfold CkAns
        refine ⟨below_step HB2.out HBW.out, .inl ⟨rfl, rfl, HP.out, H0.out, fun t ht => ?_⟩⟩
        obtain ⟨i, hi, rfl⟩ := List.getElem_of_mem ht
        exact HWR.out i _ hi (List.getElem?_eq_getElem hi)
end Go.Proofs.YtcddbpdebklhnaaGreatDoor

namespace Go.Proofs.YtcddbpdebklhnaaGreatDoor
open Go.RowKit

section
variable {w : World} {A : Option Addr} {c R nl m : Nat} {lv st pt al au : Nat → Int} {n : ByteArray} {ts : List TkI}
/-- The targets of the first k tasks. -/
def tgtK (nl : Nat) (lv st : Nat → Int) (ts : List TkI) (k : Nat) : List Int := (ts.take k).map (targetI nl lv st)
theorem tgtK_next {k : Nat} {t : TkI} (ht : ts[k]? = some t) : tgtK nl lv st ts (k + 1) = tgtK nl lv st ts k ++ [targetI nl lv st t] := by
  unfold tgtK
  rw [List.take_add_one, ht, List.map_append]
  rfl
theorem tgtK_len (k : Nat) (hk : k ≤ ts.length) : (tgtK nl lv st ts k).length = k := by
  unfold tgtK
  rw [List.length_map, List.length_take]
  omega
set_option maxHeartbeats 8000000 in
set_option maxRecDepth 100000 in
theorem ctargets_is (hA : TksI w A ts) (hcp : ts.length ≤ c) (hRI : RightI n ts) (hs : ∀ t ∈ ts, 0 ≤ t.st ∧ t.st ≤ 65535) (hR : RosAt w R nl m lv st pt al au) :
    Calls Tryz.prog 10 #[.agg #[.string n, .slice A ts.length c], .pointer (some ⟨R, 0, none⟩)] w fun e w' => (∃ B b, e = .returned (.slice B (ts.map (targetI nl lv st)).length b) ∧ NumsAt w' B (ts.map (targetI nl lv st))) ∧ Below w.heap.size w w' := by
  have b0 := (Below.refl w.heap.size w).alloc (Nat.le_refl _) (.cells #[.string n, .slice A ts.length c] 24)
  have HX := Lib.hid (made_at w (.cells #[.string n, .slice A ts.length c] 24))
  have HB0 := Lib.hid b0
  have HR := Lib.hid (hR.later b0)
  have HA := Lib.hid hA
  have h8 : ts.length ≤ 8 := hRI.few.2
  have HAL := Lib.hid (fun (W : World) (hb : Below w.heap.size w W) => calone_is (Pb := fun b => b = true) (n := n) (c := c) (hA.later hb) hs (fun W' hb' => rightI_yes (hA.later (hb.trans (hb'.mono hb.size))) hRI hs) (fun _ => hRI))
  obtain ⟨i0, hi, hz0, hz1, hz2⟩ := info_all info_int
  have hall : ts.map (targetI nl lv st) = tgtK nl lv st ts ts.length := by unfold tgtK; rw [List.take_length]
  rw [hall]
  clear b0 hA hs hRI hR hall
  go_enter Tryz.func10, Tryz.ntmps10
  go_upto_region 1 with fail
  generalize hW0 : (w.alloc (.cells #[.string n, .slice A ts.length c] 24)) = W0 at *
  clear hW0
  have x0 := cellH HX.out 0
  have x1 := cellH HX.out 1
  simp at x0 x1
  go_wp2_with fail
  refine (HAL.out _ HB0.out).mono ?_
  rintro e w1 ⟨hb1, hout⟩
  have HB1 := Lib.hid (below_step HB0.out hb1)
  have HX1 := Lib.hid (later_at hb1 HX.out)
  have HR1 := Lib.hid (HR.out.later hb1)
  clear hb1 x0 x1 HX HR HB0 HAL
  have hE : ∃ E, e = .returned E ∧ Calls Tryz.prog 27 #[E, .iface 31 (.int .i64 1)] w1 (fun r w' => r = .returned (.bool false) ∧ w1 = w') := by
    rcases hout with ⟨hp, _⟩ | ⟨_, _, F, rfl, hF⟩ | ⟨_, _, rfl⟩
    · cases hp
    · exact ⟨_, rfl, is_fault (e := 1) hF⟩
    · exact ⟨_, rfl, is_none _ 1⟩
  clear hout
  obtain ⟨E, rfl, hIs⟩ := hE
  have HIS := Lib.hid hIs
  clear hIs
  have x1 := cellH HX1.out 1
  simp at x1
  go_wp2_with fail
  refine HIS.out.mono ?_
  rintro e w2 ⟨rfl, rfl⟩
  go_wp2_with fail
  clear x1
  go_loopw [5, 15] (fun v i wr => ∃ k : Nat, i = .int .i64 k ∧ k ≤ ts.length ∧ Hid (wr.ownsRow w1.heap.size 3 1 v (tgtK nl lv st ts k).length ((tgtK nl lv st ts k).map (Value.int .i64))) ∧ Hid (Below w1.heap.size w1 wr)) (fun _ i _ => ts.length - (intOf i).toNat)
  case atStart => exact ⟨0, rfl, Nat.zero_le _, Lib.hid (World.ownsRow_nil _ _ _ _), Lib.hid (Below.refl _ _)⟩
  case round =>
    obtain ⟨k, rfl, hk, HO, HBW⟩ := hrel
    by_cases hlt : k < ts.length
    · obtain ⟨t, ht⟩ : ∃ t, ts[k]? = some t := ⟨_, List.getElem?_eq_getElem hlt⟩
      obtain ⟨pa, B1, c1, rfl, p0, pj, hN1, hcp1⟩ := (HA.out.later (below_step HB1.out HBW.out)).at_ ht
      have p1 := pj 1 _ rfl
      have p2 := pj 2 _ rfl
      have p3 := pj 3 _ rfl
      have p4 := pj 4 _ rfl
      have p5 := pj 5 _ rfl
      have p6 := pj 6 _ rfl
      have hk0 : (0 : Int) ≤ (k : Int) := by omega
      have hkl : (k : Int) < (ts.length : Int) := by omega
      have hkc : (k : Int) < (c : Int) := by omega
      have hb1 := (Below.refl wr.heap.size wr).alloc (Nat.le_refl _) (.cells (tkiA t B1 c1) 43)
      have HT := Lib.hid (made_at wr (.cells (tkiA t B1 c1) 43))
      have HB3 := Lib.hid (below_step HBW.out hb1)
      have HO3 := Lib.hid (own_agree HO.out (fun q _ hq => hb1.block q hq))
      have HNX := Lib.hid (tgtK_next (nl := nl) (lv := lv) (st := st) ht)
      have HLN := Lib.hid (tgtK_len (nl := nl) (lv := lv) (st := st) (ts := ts) k hk)
      clear pj hN1 hcp1 hb1 ht
      unfold tkiA at HT
      go_upto_region 7 with fail
      generalize hW3 : (wr.alloc (.cells #[.string t.name, .slice B1 t.after.length c1, .int .i64 t.retry, .int .i64 t.time, .int .i64 t.need, .int .i64 t.lv, .int .u16 t.st] 43)) = W3 at *
      clear hW3 p0 p1 p2 p3 p4 p5 p6
      have y0 := cellH HT.out 0
      have y1 := cellH HT.out 1
      have y2 := cellH HT.out 2
      have y3 := cellH HT.out 3
      have y4 := cellH HT.out 4
      have y5 := cellH HT.out 5
      have y6 := cellH HT.out 6
      simp at y0 y1 y2 y3 y4 y5 y6
      go_wp2_with fail
      refine (cisgate_is _ _ _ _ _ _ _ _).mono ?_
      rintro e w4 ⟨rfl, hb4⟩
      have HB4 := Lib.hid (below_step HB3.out hb4)
      have HT4 := Lib.hid (later_at hb4 HT.out)
      have HO4 := Lib.hid (own_agree HO3.out (fun q _ hq => hb4.block q hq))
      clear hb4 y0 y1 y2 y3 y4 y5 y6 HT HB3 HO HO3
      by_cases hg : t.need = 0
      · have hg' : (t.need != 0) = false := by rw [bne_eq_false_iff_eq]; exact hg
        have HV := Lib.hid (show targetI nl lv st t = -1 by unfold targetI; rw [if_pos hg])
        have hsz := HB4.out.size
        have hlen := HLN.out
        clear hg
        go_wp2_with (at_builtin; refine wpList_append_own _ rfl _ _ 37 rfl w1.heap.size 3 i0 _ 1 8 Tryz.underlying37 hi hz0 hz1 hz2 rfl (by omega) _ (tgtK nl lv st ts k).length ((tgtK nl lv st ts k).map (Value.int .i64)) rfl (HO4.out.alloc _) ⟨w4.heap.size, 0, none⟩ 1 1 [.int .i64 (-1)] rfl rfl (one_cell_new w4 _ _) (by simp [Value.oneCell']) (by unfold maxLen; omega) (by omega) (by simp; omega) ?_; intro v2 w2 hown2 hg2 _)
        have hB2 := (HB4.out.alloc hsz (.cells #[.int .i64 (-1)] 3)).grown hg2 (by simp; omega) (fun q hq => (own_tag HO4.out hq).1)
        go_roundw
        case rel => exact ⟨k + 1, by go_num, by omega, Lib.hid (by rw [HNX.out, HV.out]; simpa using hown2), Lib.hid hB2⟩
        case measure => simp [intOf]; omega
      · have hg' : (t.need != 0) = true := by rw [bne_iff_ne]; exact hg
        obtain ⟨gl, hgl⟩ : ∃ gl, gl = goalL nl lv st t.lv t.st := ⟨_, rfl⟩
        have HV := Lib.hid (show targetI nl lv st t = gl by unfold targetI; rw [if_neg hg, hgl])
        have HF := Lib.hid (show Calls Tryz.prog 28 #[.pointer (some ⟨R, 0, none⟩), .agg #[.int .i64 t.lv, .int .u16 t.st]] w4 (fun e w' => e = .returned (.int .i64 gl) ∧ Below w4.heap.size w4 w') from by rw [hgl]; exact rfind_is (HR1.out.later HB4.out) _ _)
        have hlen := HLN.out
        clear hg hgl
        have y5 := cellH HT4.out 5
        have y6 := cellH HT4.out 6
        simp at y5 y6
        go_wp2_with (first
          | (go_at_call 28; refine HF.out.mono ?_; rintro e w5 ⟨rfl, hb5⟩; have HB5 := Lib.hid (below_step HB4.out hb5); have HO5 := Lib.hid (own_agree HO4.out (fun q _ hq => hb5.block q hq)); have hsz := HB5.out.size; clear hb5)
          | (at_builtin; refine wpList_append_own _ rfl _ _ 37 rfl w1.heap.size 3 i0 _ 1 8 Tryz.underlying37 hi hz0 hz1 hz2 rfl (by omega) _ (tgtK nl lv st ts k).length ((tgtK nl lv st ts k).map (Value.int .i64)) rfl (HO5.out.alloc _) ⟨w5.heap.size, 0, none⟩ 1 1 [.int .i64 gl] rfl rfl (one_cell_new w5 _ _) (by simp [Value.oneCell']) (by unfold maxLen; omega) (by omega) (by simp; omega) ?_; intro v2 w2 hown2 hg2 _))
        have hB2 := (HB5.out.alloc hsz (.cells #[.int .i64 gl] 3)).grown hg2 (by simp; omega) (fun q hq => (own_tag HO5.out hq).1)
        go_roundw
        case rel => exact ⟨k + 1, by go_num, by omega, Lib.hid (by rw [HNX.out, HV.out]; simpa using hown2), Lib.hid hB2⟩
        case measure => simp [intOf]; omega
    · obtain rfl : k = ts.length := by omega
      have hlk : ¬ (ts.length : Int) < (ts.length : Int) := by omega
      obtain ⟨A', c', rfl, hN⟩ := ints_of_own HO.out
      have HN := Lib.hid hN.nums
      clear hN
      go_wp2_with fail
      go_ret
      refine ⟨?_, below_step HB1.out HBW.out⟩
      first | exact ⟨_, _, rfl, HN.out⟩ | exact ⟨_, ⟨_, rfl⟩, HN.out⟩
end
set_option maxHeartbeats 1000000 in
set_option maxRecDepth 100000 in
theorem ccheck_no {w : World} (part : Int) : Calls Tryz.prog 9 #[.agg #[.string ⟨#[]⟩, .slice none 0 0], .pointer none, .int .i64 part] w (ChkOut w False) := by
  have HB := Lib.hid (fun (W : World) (o1 : Obj) => (Below.refl W.heap.size W).alloc (Nat.le_refl _) o1)
  go_enter Tryz.func9, Tryz.ntmps9
  go_wp2_with fail
  refine (label_nil _ _).mono ?_
  rintro e w1 ⟨rfl, hb1⟩
  have hal := hb1.alloc hb1.size (.cells #[.int .i64 0, .int .u16 0] 41)
  have HB1 := Lib.hid (below_step (HB.out w _) hal)
  clear hb1 hal
  go_wp2_with fail
  refine (cfault_is _ _ _).mono ?_
  rintro e w2 ⟨F, rfl, hF, _, hb2⟩
  have HF := Lib.hid hF
  have HB2 := Lib.hid (below_step HB1.out hb2)
  clear hF hb2
  unfold fltV
  go_wp2_with fail
  go_ret
  unfold ChkOut
  exact ⟨HB2.out, .inr ⟨F, _, _, rfl, HF.out⟩⟩
end Go.Proofs.YtcddbpdebklhnaaGreatDoor
