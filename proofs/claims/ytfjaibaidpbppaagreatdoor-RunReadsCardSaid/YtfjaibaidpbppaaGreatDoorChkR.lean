/-
  The program's manifest.Right of any pipeline that is few: true only if it may be. No further conditions.
-/
import Derived.Test.YtfjaibaidpbppaaGreatDoorOrdD
import Derived.Test.YtfjaibaidpbppaaGreatDoorLsR
namespace Go.Proofs.YtfjaibaidpbppaaGreatDoor
open Go.RowKit

/-- A bool is answered, true only if P. -/
def OnlyIf (P : Prop) (e : Ending) : Prop := ∃ b, e = .returned (.bool b) ∧ (b = true → P)
theorem NumsAt.flat {w : World} {A : Option Addr} {l : List Int} (h : NumsAt w A l) (hl : 0 < l.length) : ∃ b o, A = some ⟨b, o, none⟩ ∧ ∀ j, j < l.length → w.cell? ⟨b, o + j, none⟩ = some (.int .i64 (l.getD j 0)) := by
  obtain ⟨ad, rfl, hc⟩ := h hl
  have h0 := hc 0 _ (List.getElem?_eq_getElem hl)
  have hs : ad.spot = none := by
    have := spot_none h0
    simpa [Addr.add] using this
  obtain ⟨b, o, s⟩ := ad
  obtain rfl : s = none := hs
  refine ⟨b, o, rfl, fun j hj => ?_⟩
  have h1 := cell_of (p := (⟨b, o, none⟩ : Addr).add j) (q := ⟨b, o + j, none⟩) (add_block _ _) (add_off _ _) rfl (hc j _ (List.getElem?_eq_getElem hj))
  rw [h1, List.getD_eq_getElem?_getD, List.getElem?_eq_getElem hj]
  rfl
theorem aftI_next {n k : Nat} {l : List Int} {x : Int} (h : AftI n (l.take k)) (hx : l[k]? = some x) (h0 : 0 ≤ x ∧ x ≤ (n : Int) - 1) (hc : (l.take k).contains x = false) : AftI n (l.take (k + 1)) := by
  have hk := (List.getElem?_eq_some_iff.1 hx).1
  intro i v hv
  rw [List.getElem?_take] at hv
  split at hv
  · rcases Nat.lt_or_ge i k with hik | hik
    · have h1 := h i v (by rw [List.getElem?_take_of_lt hik]; exact hv)
      refine ⟨h1.1, h1.2.1, fun j u hj hu => h1.2.2 j u hj ?_⟩
      rw [List.getElem?_take_of_lt (by omega)]
      rwa [List.getElem?_take_of_lt (by omega)] at hu
    · obtain rfl : i = k := by omega
      obtain rfl : x = v := Option.some.inj (hx.symm.trans hv)
      refine ⟨h0.1, by omega, fun j u hj hu => ?_⟩
      rintro rfl
      rw [List.getElem?_take_of_lt (by omega)] at hu
      have : u ∈ l.take i := List.mem_of_getElem? (show (l.take i)[j]? = some u by rw [List.getElem?_take_of_lt hj]; exact hu)
      rw [← List.contains_iff_mem, hc] at this
      cases this
  · cases hv
section
variable {w : World} {A : Option Addr} {c : Nat}
set_option maxHeartbeats 1000000 in
set_option maxRecDepth 100000 in
theorem areplacesi_is {l : List Int} {n : Nat} (hA : NumsAt w A l) (hn : n ≤ 1000000) (hl : l.length ≤ 1000000) (hcp : l.length ≤ c) :
    Calls Tryz.prog 101 #[.slice A l.length c, .int .i64 n] w fun e w' => OnlyIf (AftI n l) e ∧ w = w' := by
  have HA := Lib.hid hA
  clear hA
  go_enter Tryz.func101, Tryz.ntmps101
  go_wp2_with fail
  go_loopw [9] (fun i wr => ∃ k : Nat, i = .int .i64 k ∧ k ≤ l.length ∧ Hid (AftI n (l.take k)) ∧ w = wr) (fun i _ => l.length - (intOf i).toNat)
  case atStart => exact ⟨0, rfl, Nat.zero_le _, Lib.hid (fun i v h => by simp at h), rfl⟩
  case round =>
    obtain ⟨k, rfl, hk, HF, rfl⟩ := hrel
    by_cases hlt : k < l.length
    · obtain ⟨x, hx⟩ : ∃ x, l[k]? = some x := ⟨_, List.getElem?_eq_getElem hlt⟩
      obtain ⟨b, o, rfl, hc⟩ := HA.out.flat (by omega)
      have z := hc k hlt
      rw [List.getD_eq_getElem?_getD, hx] at z
      have z : w.cell? ⟨b, o + k, none⟩ = some (.int .i64 x) := z
      have z1 : w.cell? ((⟨b, o, none⟩ : Addr).add k) = some (.int .i64 x) := cell_of (p := ⟨b, o + k, none⟩) (q := (⟨b, o, none⟩ : Addr).add k) (add_block (⟨b, o, none⟩ : Addr) k).symm (add_off (⟨b, o, none⟩ : Addr) k).symm (by unfold Addr.add; split <;> rfl) z
      have hct := Tryz.slices_Contains_int b o k c l x w (by omega) (by omega) hc
      obtain ⟨cb, hcb⟩ : ∃ cb, cb = (l.take k).contains x := ⟨_, rfl⟩
      rw [← hcb] at hct
      obtain ⟨r, hr⟩ : ∃ r, r = decide (0 ≤ x ∧ x ≤ (n : Int) - 1) := ⟨_, rfl⟩
      have HC := Lib.hid hct
      have HW := Lib.hid (within_is w x 0 ((n : Int) - 1) r hr)
      have HNX := Lib.hid (fun (h1 : r = true) (h2 : cb = false) => aftI_next HF.out hx (of_decide_eq_true (hr.symm.trans h1)) (hcb.symm.trans h2))
      have hk0 : (0 : Int) ≤ (k : Int) := by omega
      have hkl : (k : Int) < (l.length : Int) := by omega
      have hkl2 : (k : Int) ≤ (c : Int) := by omega
      clear hx hc hct hcb hr
      go_wp2_with fail
      refine HW.out.mono ?_
      rintro e w1 ⟨rfl, rfl⟩
      cases r with
      | false =>
        go_wp2_with fail
        go_ret
        exact ⟨⟨_, rfl, fun h => by cases h⟩, rfl⟩
      | true =>
        go_wp2_with fail
        refine HC.out.mono ?_
        rintro e w1 ⟨rfl, rfl⟩
        cases cb with
        | true =>
          go_wp2_with fail
          go_ret
          exact ⟨⟨_, rfl, fun h => by cases h⟩, rfl⟩
        | false =>
          go_wp2_with fail
          go_roundw
          case rel => exact ⟨k + 1, by go_num, by omega, Lib.hid (HNX.out (by first | rfl | trivial) (by first | rfl | trivial)), by trivial⟩
          case measure => simp [intOf]; omega
    · have hke : k = l.length := by omega
      subst hke
      have hlk : ¬ (l.length : Int) < (l.length : Int) := by omega
      go_wp2_with fail
      go_ret
      exact ⟨⟨_, rfl, fun _ => by have := HF.out; rwa [List.take_length] at this⟩, rfl⟩
set_option maxHeartbeats 2000000 in
set_option maxRecDepth 100000 in
theorem maybei_is {t : TkI} {n : Nat} (hA : NumsAt w A t.after) (hl : t.after.length ≤ 1000000) (hcp : t.after.length ≤ c) (hn : n ≤ 1000000) :
    Calls Tryz.prog 85 #[.agg (tkiA t A c), .int .i64 n] w fun e w' => OnlyIf (TaskI n t) e ∧ Below w.heap.size w w' := by
  have hb0 := (Below.refl w.heap.size w).alloc (Nat.le_refl _) (.cells (tkiA t A c) 65)
  have HB0 := Lib.hid hb0
  have HX := Lib.hid (made_at w (.cells (tkiA t A c) 65))
  have HAP := Lib.hid (fun (x : World) (hx : Below w.heap.size w x) => areplacesi_is (c := c) (hA.later hx) hn hl hcp)
  have HIN := Lib.hid (fun x : World => isnameM_is t.name x)
  obtain ⟨nb, hnb⟩ : ∃ nb, nb = nameP t.name := ⟨_, rfl⟩
  rw [← hnb] at HIN
  have HNB := Lib.hid (show nb = true → nameOk t.name from fun h => of_decide_eq_true (hnb.symm.trans h))
  obtain ⟨tb, htb⟩ : ∃ tb, tb = decide (1 ≤ t.time ∧ t.time ≤ 100) := ⟨_, rfl⟩
  obtain ⟨rb, hrb⟩ : ∃ rb, rb = decide (0 ≤ t.retry ∧ t.retry ≤ 5) := ⟨_, rfl⟩
  obtain ⟨eb, heb⟩ : ∃ eb, eb = decide (1 ≤ t.need ∧ t.need ≤ 4) := ⟨_, rfl⟩
  obtain ⟨lb, hlb⟩ : ∃ lb, lb = rightB t.lv := ⟨_, rfl⟩
  have HT1 := Lib.hid (fun x : World => within_is x t.time 1 100 tb htb)
  have HR1 := Lib.hid (fun x : World => within_is x t.retry 0 5 rb hrb)
  have HE1 := Lib.hid (fun x : World => within_is x t.need 1 4 eb heb)
  have HLB := Lib.hid (fun x : World => right_is t.lv t.st lb hlb.symm x)
  have HTB := Lib.hid (show tb = true → 1 ≤ t.time ∧ t.time ≤ 100 from fun h => of_decide_eq_true (htb.symm.trans h))
  have HRB := Lib.hid (show rb = true → 0 ≤ t.retry ∧ t.retry ≤ 5 from fun h => of_decide_eq_true (hrb.symm.trans h))
  have HEB := Lib.hid (show eb = true → 1 ≤ t.need ∧ t.need ≤ 4 from fun h => of_decide_eq_true (heb.symm.trans h))
  have HLV := Lib.hid (show lb = true → 0 ≤ t.lv ∧ t.lv ≤ 7 from fun h => by
    have := hlb.symm.trans h
    unfold rightB at this
    simp at this
    omega)
  clear hb0 hA hn hl hcp hnb htb hrb heb hlb
  go_enter Tryz.func85, Tryz.ntmps85
  go_upto_region 1 with fail
  generalize hW0 : (w.alloc (.cells (tkiA t A c) 65)) = W0 at *
  clear hW0
  have x0 := cellH HX.out 0
  have x1 := cellH HX.out 1
  have x3 := cellH HX.out 3
  simp at x0 x1 x3
  go_wp2_with fail
  refine (HIN.out _).mono ?_
  rintro e w1 ⟨rfl, hb1⟩
  have HB1 := Lib.hid (below_step HB0.out hb1)
  have HX1 := Lib.hid (later_at hb1 HX.out)
  clear hb1 x0 x1 x3
  have x1 := cellH HX1.out 1
  have x3 := cellH HX1.out 3
  simp at x1 x3
  cases nb with
  | false =>
    go_wp2_with fail
    go_ret
    exact ⟨⟨_, rfl, fun h => by cases h⟩, HB1.out⟩
  | true =>
  go_wp2_with fail
  refine (HAP.out _ HB1.out).mono ?_
  rintro e w2 ⟨⟨ab, rfl, hab⟩, rfl⟩
  have HAB := Lib.hid hab
  clear hab
  cases ab with
  | false =>
    go_wp2_with fail
    go_ret
    exact ⟨⟨_, rfl, fun h => by cases h⟩, HB1.out⟩
  | true =>
  go_wp2_with fail
  refine (HT1.out _).mono ?_
  rintro e w2 ⟨rfl, rfl⟩
  cases tb with
  | false =>
    go_wp2_with fail
    go_ret
    exact ⟨⟨_, rfl, fun h => by cases h⟩, HB1.out⟩
  | true =>
  clear x1 x3
  have x0 := cellH HX1.out 0
  have x1 := cellH HX1.out 1
  have x2 := cellH HX1.out 2
  have x3 := cellH HX1.out 3
  have x4 := cellH HX1.out 4
  have x5 := cellH HX1.out 5
  have x6 := cellH HX1.out 6
  simp at x0 x1 x2 x3 x4 x5 x6
  go_wp2_with fail
  refine (isgate_is _ _ _ _ _ _ _ _).mono ?_
  rintro e w3 ⟨rfl, hb3⟩
  have HB3 := Lib.hid (below_step HB1.out hb3)
  have HX3 := Lib.hid (later_at hb3 HX1.out)
  clear hb3 x0 x1 x2 x3 x4 x5 x6
  have x2 := cellH HX3.out 2
  have x4 := cellH HX3.out 4
  have x5 := cellH HX3.out 5
  have x6 := cellH HX3.out 6
  simp at x2 x4 x5 x6
  by_cases hg : t.need = 0
  · have hg' : (t.need != 0) = false := by rw [bne_eq_false_iff_eq]; exact hg
    have HG := Lib.hid hg
    obtain ⟨zb, hzb⟩ : ∃ zb, sameB t.lv t.st 0 0 = zb := ⟨_, rfl⟩
    have HZB := Lib.hid (show zb = true → t.lv = 0 ∧ t.st = 0 from fun h => sameB_iff.1 (hzb.trans h))
    clear hg
    go_wp2_with fail
    refine (HR1.out _).mono ?_
    rintro e w4 ⟨rfl, rfl⟩
    cases rb with
    | false =>
      go_wp2_with fail
      go_ret
      exact ⟨⟨_, rfl, fun h => by cases h⟩, HB3.out⟩
    | true =>
      go_wp2_with fail
      go_ret
      refine ⟨⟨_, rfl, fun h => ?_⟩, HB3.out⟩
      have hz := HZB.out h
      have h0 := HG.out
      exact ⟨HNB.out (by first | rfl | trivial), HTB.out (by first | rfl | trivial), by omega, HRB.out (by first | rfl | trivial), by omega, fun _ => hz, fun h => by omega, HAB.out (by first | rfl | trivial)⟩
  · have hg' : (t.need != 0) = true := by rw [bne_iff_ne]; exact hg
    have HG := Lib.hid hg
    clear hg
    go_wp2_with fail
    refine (HE1.out _).mono ?_
    rintro e w4 ⟨rfl, rfl⟩
    cases eb with
    | false =>
      go_wp2_with fail
      go_ret
      exact ⟨⟨_, rfl, fun h => by cases h⟩, HB3.out⟩
    | true =>
    go_wp2_with fail
    refine (HLB.out _).mono ?_
    rintro e w5 ⟨rfl, hb5⟩
    have HB5 := Lib.hid (below_step HB3.out hb5)
    have HX5 := Lib.hid (later_at hb5 HX3.out)
    clear hb5 x2 x4 x5 x6
    have x2 := cellH HX5.out 2
    simp at x2
    cases lb with
    | false =>
      go_wp2_with fail
      go_ret
      exact ⟨⟨_, rfl, fun h => by cases h⟩, HB5.out⟩
    | true =>
      go_wp2_with fail
      go_ret
      refine ⟨⟨_, rfl, fun h => ?_⟩, HB5.out⟩
      have h2 := HEB.out (by first | rfl | trivial)
      have hr0 : t.retry = 0 := by simpa using h
      have h3 := HLV.out (by first | rfl | trivial)
      exact ⟨HNB.out (by first | rfl | trivial), HTB.out (by first | rfl | trivial), by omega, by omega, h3, fun h => absurd h HG.out, fun _ => hr0, HAB.out (by first | rfl | trivial)⟩
/-- The first k tasks may be, and no two of them have one name. -/
def RtK (n : Nat) (ts : List TkI) (k : Nat) : Prop := ∀ (i : Nat) t, i < k → ts[i]? = some t → TaskI n t ∧ ∀ (j : Nat) u, j < i → ts[j]? = some u → u.name ≠ t.name
theorem rtK_next {n k : Nat} {ts : List TkI} {t : TkI} (h : RtK n ts k) (ht : ts[k]? = some t) (h1 : TaskI n t) (h2 : memB t.name ((ts.map (·.name)).take k) = false) : RtK n ts (k + 1) := by
  intro i u hi hu
  rcases Nat.lt_or_ge i k with hik | hik
  · exact h i u hik hu
  · obtain rfl : i = k := by omega
    obtain rfl : t = u := Option.some.inj (ht.symm.trans hu)
    refine ⟨h1, fun j v hj hv e => ?_⟩
    have hm : memB t.name ((ts.map (·.name)).take i) = true := by
      rw [memB_iff]
      refine List.mem_of_getElem? (i := j) ?_
      rw [List.getElem?_take_of_lt hj, List.getElem?_map, hv, Option.map_some, e]
    rw [h2] at hm
    cases hm
theorem namesI_next {ts : List TkI} {k : Nat} {t : TkI} (ht : ts[k]? = some t) : (ts.map (·.name)).take (k + 1) = (ts.map (·.name)).take k ++ [t.name] := by
  rw [List.take_add_one, List.getElem?_map, ht]
  rfl
set_option maxHeartbeats 2000000 in
set_option maxRecDepth 100000 in
theorem mrighti_is {n : ByteArray} {ts : List TkI} (hA : TksI w A ts) (hF : FewI n ts) : Calls Tryz.prog 63 #[.agg #[.string n, .slice A ts.length c]] w fun e w' => OnlyIf (RightI n ts) e ∧ Below w.heap.size w w' := by
  have hb0 := (Below.refl w.heap.size w).alloc (Nat.le_refl _) (.cells #[.string n, .slice A ts.length c] 24)
  have HB0 := Lib.hid hb0
  have HX := Lib.hid (made_at w (.cells #[.string n, .slice A ts.length c] 24))
  have HA := Lib.hid hA
  have HFW := Lib.hid hF
  have h20 : ts.length ≤ 20 := hF.2.1
  have HIN := Lib.hid (fun x : World => isnameM_is n x)
  obtain ⟨nb, hnb⟩ : ∃ nb, nb = nameP n := ⟨_, rfl⟩
  rw [← hnb] at HIN
  have HNB := Lib.hid (show nb = true → nameOk n from fun h => of_decide_eq_true (hnb.symm.trans h))
  have hmm := @run_makeMap Tryz.prog
  obtain ⟨lb, hlb⟩ : ∃ lb, lb = decide (1 ≤ (ts.length : Int) ∧ (ts.length : Int) ≤ 8) := ⟨_, rfl⟩
  have HLN := Lib.hid (fun x : World => within_is x (ts.length : Int) 1 8 lb hlb)
  have HLB := Lib.hid (show lb = true → 1 ≤ ts.length ∧ ts.length ≤ 8 from fun h => by have := of_decide_eq_true (hlb.symm.trans h); omega)
  clear hb0 hA hF hnb hlb
  go_enter Tryz.func63, Tryz.ntmps63
  go_upto_region 1 with fail
  generalize hW0 : (w.alloc (.cells #[.string n, .slice A ts.length c] 24)) = W0 at *
  clear hW0
  have x0 := cellH HX.out 0
  have x1 := cellH HX.out 1
  simp at x0 x1
  go_wp2_with fail
  refine (HIN.out _).mono ?_
  rintro e w1 ⟨rfl, hb1⟩
  have HB1 := Lib.hid (below_step HB0.out hb1)
  have HX1 := Lib.hid (later_at hb1 HX.out)
  clear hb1 x0 x1
  have x1 := cellH HX1.out 1
  simp at x1
  cases nb with
  | false =>
    go_wp2_with fail
    go_ret
    exact ⟨⟨_, rfl, fun h => by cases h⟩, HB1.out⟩
  | true =>
  go_wp2_with fail
  refine (HLN.out _).mono ?_
  rintro e w2 ⟨rfl, rfl⟩
  cases lb with
  | false =>
    go_wp2_with fail
    go_ret
    exact ⟨⟨_, rfl, fun h => by cases h⟩, HB1.out⟩
  | true =>
  have hb2 := (Below.refl w1.heap.size w1).alloc (Nat.le_refl _) (.map #[] 0)
  have HB2 := Lib.hid (below_step HB1.out hb2)
  have HX2 := Lib.hid (later_at hb2 HX1.out)
  have HM2 := Lib.hid (SetIs.made w1)
  have HPM := Lib.hid (show w.heap.size < w1.heap.size from (Array.getElem?_eq_some_iff.1 HX1.out).1)
  clear hb2 x1
  have x1 := cellH HX2.out 1
  simp at x1
  go_wp2_with fail
  clear x1
  go_loopw [21] (fun i wr => ∃ k : Nat, i = .int .i64 k ∧ k ≤ ts.length ∧ Hid (Below w.heap.size w wr) ∧ Hid (wr.heap[w.heap.size]? = some (.cells #[.string n, .slice A ts.length c] 24 (0, 0))) ∧ Hid (SetIs wr w1.heap.size k ((ts.map (·.name)).take k)) ∧ Hid (RtK ts.length ts k)) (fun i _ => ts.length - (intOf i).toNat)
  case atStart => exact ⟨0, rfl, Nat.zero_le _, HB2, HX2, HM2, Lib.hid (fun i t hi => absurd hi (Nat.not_lt_zero _))⟩
  case round =>
    obtain ⟨k, rfl, hk, HBW, HXW, HMW, HRT⟩ := hrel
    have x1 := cellH HXW.out 1
    simp at x1
    by_cases hlt : k < ts.length
    · obtain ⟨t, ht⟩ : ∃ t, ts[k]? = some t := ⟨_, List.getElem?_eq_getElem hlt⟩
      obtain ⟨pa, B1, c1, rfl, p0, pj, hN1, hcp⟩ := (HA.out.later HBW.out).at_ ht
      have p1 := pj 1 _ rfl
      have p2 := pj 2 _ rfl
      have p3 := pj 3 _ rfl
      have p4 := pj 4 _ rfl
      have p5 := pj 5 _ rfl
      have p6 := pj 6 _ rfl
      have hk0 : (0 : Int) ≤ (k : Int) := by omega
      have hkl : (k : Int) < (ts.length : Int) := by omega
      have hb1 := (Below.refl wr.heap.size wr).alloc (Nat.le_refl _) (.cells (tkiA t B1 c1) 65)
      have HT := Lib.hid (made_at wr (.cells (tkiA t B1 c1) 65))
      have HB3 := Lib.hid (below_step HBW.out hb1)
      have HX3 := Lib.hid (later_at hb1 HXW.out)
      have HM3 := Lib.hid (HMW.out.later hb1)
      have hfw := HFW.out.1 t (List.mem_of_getElem? ht)
      have HMB := Lib.hid (maybei_is (t := t) (n := ts.length) (hN1.later hb1) (by omega) hcp (by omega))
      have HNX := Lib.hid (namesI_next ht)
      have HRX := Lib.hid (fun h1 h2 => rtK_next HRT.out ht h1 h2)
      have hns : t.name.size ≤ 1000000 := by omega
      clear pj hN1 hcp hb1 ht hfw
      unfold tkiA at HMB HT
      go_upto_region 7 with fail
      generalize hW3 : (wr.alloc (.cells #[.string t.name, .slice B1 t.after.length c1, .int .i64 t.retry, .int .i64 t.time, .int .i64 t.need, .int .i64 t.lv, .int .u16 t.st] 65)) = W3 at *
      clear hW3 p0 p1 p2 p3 p4 p5 p6 x1
      have y0 := cellH HT.out 0
      have y1 := cellH HT.out 1
      have y2 := cellH HT.out 2
      have y3 := cellH HT.out 3
      have y4 := cellH HT.out 4
      have y5 := cellH HT.out 5
      have y6 := cellH HT.out 6
      have x1 := cellH HX3.out 1
      simp at y0 y1 y2 y3 y4 y5 y6 x1
      go_wp2_with fail
      refine HMB.out.mono ?_
      rintro e w4 ⟨⟨mb, rfl, hmb⟩, hb4⟩
      have HMT := Lib.hid hmb
      have HB4 := Lib.hid (below_step HB3.out hb4)
      have HX4 := Lib.hid (later_at hb4 HX3.out)
      have HM4 := Lib.hid (HM3.out.later hb4)
      have y0 := cellH (later_at hb4 HT.out) 0
      simp at y0
      clear hmb hb4 x1 y1 y2 y3 y4 y5 y6
      cases mb with
      | false =>
        go_wp2_with fail
        go_ret
        exact ⟨⟨_, rfl, fun h => by cases h⟩, HB4.out⟩
      | true =>
      have had := add_is HM4.out (by omega) t.name hns
      obtain ⟨mm, hmm2⟩ : ∃ mm, mm = memB t.name ((ts.map (·.name)).take k) := ⟨_, rfl⟩
      rw [← hmm2] at had
      have HMM := Lib.hid hmm2
      have HAD := Lib.hid had
      clear had hmm2
      cases mm with
      | true =>
        go_wp2_with fail
        refine HAD.out.mono ?_
        rintro e w5 ⟨rfl, hap, hs5⟩
        have hpm := HPM.out
        have HB5 := Lib.hid (HB4.out.trans (hap.below (n := w.heap.size) (fun b e => by omega) HB4.out.size))
        clear hap hs5 hpm y0
        go_wp2_with fail
        go_ret
        exact ⟨⟨_, rfl, fun h => by cases h⟩, HB5.out⟩
      | false =>
        go_wp2_with fail
        refine HAD.out.mono ?_
        rintro e w5 ⟨rfl, hap, hs5⟩
        have hpm := HPM.out
        have HB5 := Lib.hid (HB4.out.trans (hap.below (n := w.heap.size) (fun b e => by omega) HB4.out.size))
        have HX5 := Lib.hid ((hap.block w.heap.size (Array.getElem?_eq_some_iff.1 HX4.out).1 (by omega)).trans HX4.out)
        have HM5 := Lib.hid (show SetIs w5 w1.heap.size (k + 1) ((ts.map (·.name)).take (k + 1)) by rw [HNX.out]; simpa using hs5)
        clear hap hs5 hpm y0
        go_wp2_with fail
        go_roundw
        case rel => exact ⟨k + 1, by go_num, by omega, HB5, HX5, HM5, Lib.hid (HRX.out (HMT.out (by first | rfl | trivial)) HMM.out.symm)⟩
        case measure => simp [intOf]; omega
    · obtain rfl : k = ts.length := by omega
      have hlk : ¬ (ts.length : Int) < (ts.length : Int) := by omega
      go_wp2_with fail
      go_ret
      refine ⟨⟨_, rfl, fun _ => ⟨HNB.out (by first | rfl | trivial), HLB.out (by first | rfl | trivial), fun i t ht => ?_⟩⟩, HBW.out⟩
      exact HRT.out i t (List.getElem?_eq_some_iff.1 ht).1 ht
end
end Go.Proofs.YtfjaibaidpbppaaGreatDoor
