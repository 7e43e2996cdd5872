/-
  OrderLong over the bundle. No conditions but how the arguments lie.
-/
import Derived.Test.YtpndjeccfdcjpaaOrdM
import Derived.Carry
namespace Go.Proofs.Ytpndjeccfdcjpaa
open Go.RowKit

theorem mod_at (c : Int) {n : Nat} (h : 0 < n) (h2 : n ≤ 1000000) : ∃ k : Nat, wrap64 ((IntKind.u64.wrap c).tmod (n : Int)) = k ∧ k < n := by
  have h0 : 0 ≤ IntKind.u64.wrap c := by rw [IntKind.wrap_u64]; omega
  rw [Int.tmod_eq_emod_of_nonneg h0]
  generalize IntKind.u64.wrap c = z at h0
  have h3 := Int.emod_nonneg z (show (n : Int) ≠ 0 by omega)
  have h4 := Int.emod_lt_of_pos z (show (0 : Int) < n by omega)
  refine ⟨(z % n).toNat, ?_, by omega⟩
  unfold wrap64
  omega

theorem flatP_take {ts : List TkI} {k : Nat} {t : TkI} (ht : ts[k]? = some t) : flatP ((ts.map TkI.toP).take (k + 1)) = (flatP ((ts.map TkI.toP).take k) && t.after.isEmpty) := by
  unfold flatP
  have h1 : (ts.map TkI.toP)[k]? = some t.toP := by rw [List.getElem?_map, ht]; rfl
  rw [List.take_add_one, h1, List.all_append]
  simp [TkI.toP]
theorem BoolsAt.cells {w : World} {D : Option Addr} {ds : List Bool} (h : BoolsAt w D ds) (h0 : 0 < ds.length) : ∃ ad, D = some ad ∧ ∀ (j : Nat) (u : Value), (ds.map Value.bool)[j]? = some u → w.cell? (ad.add j) = some u := by
  obtain ⟨ad, e, hc⟩ := h h0
  refine ⟨ad, e, fun j u hj => ?_⟩
  rw [List.getElem?_map, Option.map_eq_some_iff] at hj
  obtain ⟨b, hb, rfl⟩ := hj
  exact hc j b hb
section
variable {longV roundV : PiP → Int}
set_option maxHeartbeats 2000000 in
set_option maxRecDepth 100000 in
theorem orderlong_true (hM : OrdOk longV roundV) (hW : ∀ w : World, Calls Try.prog 4 #[] w fun e w' => e = .returned (.bool true) ∧ Below w.heap.size w w')
    {w : World} {A : Option Addr} {c : Nat} {n : ByteArray} {ts : List TkI} {D : Option Addr} {ds : List Bool} {d : Nat} {m : Int}
    (hA : TksI w A ts) (hc : ts.length ≤ c) (hL : ts.length ≤ 9223372036854775807) (hS : ∀ t ∈ ts, 0 ≤ t.st ∧ t.st ≤ 65535) (hD : BoolsAt w D ds) (hd : ds.length ≤ d) :
    Calls Try.prog 3 #[.agg #[.string n, .slice A ts.length c], .slice D ds.length d, .int .i64 m] w fun e w' => e = .returned (.bool true) ∧ Below w.heap.size w w' := by
  have b1 := (Below.refl w.heap.size w).alloc (Nat.le_refl _) (.cells #[.string n, .slice A ts.length c] 24)
  have HX := Lib.hid (made_at w (.cells #[.string n, .slice A ts.length c] 24))
  have HM := Lib.hid hM
  have HW := Lib.hid hW
  have HC := Lib.hid hc
  have HL := Lib.hid hL
  have HS := Lib.hid hS
  have Hd := Lib.hid hd
  have HA := Lib.hid (hA.later b1)
  have HD := Lib.hid (hD.later b1)
  have HB0 := Lib.hid b1
  clear b1 hA hc hL hS hD hd hM hW
  go_enter Try.func3, Try.ntmps3
  go_upto_region 1 with fail
  generalize hW0 : (w.alloc (.cells #[.string n, .slice A ts.length c] 24)) = W0 at *
  have hblk : w.heap.size < W0.heap.size := by rw [← hW0, World.size_alloc]; omega
  have HBLK := Lib.hid hblk
  clear hW0 hblk
  go_wp2_with fail
  refine (HW.out _).mono ?_
  rintro e w1 ⟨rfl, hb1⟩
  have HX1 := Lib.hid (later_at hb1 HX.out)
  have HB1 := Lib.hid hb1
  have x0 := cellH HX1.out 0
  have x1 := cellH HX1.out 1
  simp at x0 x1
  clear hb1 HX
  go_wp2_with fail
  refine (reffew_is (HA.out.later HB1.out) HL.out).mono ?_
  rintro e w2 ⟨⟨b, rfl, hf⟩, hb2⟩
  have HB2 := Lib.hid (below_step HB1.out hb2)
  have HX2 := Lib.hid (later_at hb2 HX1.out)
  clear x0 x1 hb2 HX1 HB1
  have x0 := cellH HX2.out 0
  have x1 := cellH HX2.out 1
  simp at x0 x1
  cases b
  case false =>
    clear hf
    go_wp2_with fail
    refine (HW.out _).mono ?_
    rintro e w3 ⟨rfl, hb3⟩
    have HB3 := Lib.hid (below_step HB2.out hb3)
    clear hb3
    go_wp2_with fail
    go_ret
    exact ⟨rfl, below_step HB0.out HB3.out⟩
  case true =>
  have HF := Lib.hid (hf rfl)
  clear hf
  go_wp2_with fail
  refine (refrighti_is (HA.out.later HB2.out) HF.out).mono ?_
  rintro e w3 ⟨⟨b, rfl, hr⟩, hb3⟩
  have HB3 := Lib.hid (below_step HB2.out hb3)
  have HX3 := Lib.hid (later_at hb3 HX2.out)
  clear x0 x1 hb3 HX2 HB2
  have x0 := cellH HX3.out 0
  have x1 := cellH HX3.out 1
  simp at x0 x1
  cases b
  case false =>
    clear hr
    go_wp2_with fail
    refine (HW.out _).mono ?_
    rintro e w4 ⟨rfl, hb4⟩
    have HB4 := Lib.hid (below_step HB3.out hb4)
    clear hb4
    go_wp2_with fail
    go_ret
    exact ⟨rfl, below_step HB0.out HB4.out⟩
  case true =>
  have HR := Lib.hid (hr rfl)
  clear hr
  cases hdt : ((ds.length : Int) != (ts.length : Int))
  case true =>
    go_wp2_with fail
    refine (HW.out _).mono ?_
    rintro e w4 ⟨rfl, hb4⟩
    have HB4 := Lib.hid (below_step HB3.out hb4)
    clear hb4
    go_wp2_with fail
    go_ret
    exact ⟨rfl, below_step HB0.out HB4.out⟩
  case false =>
  have HDT := Lib.hid (show ds.length = ts.length by rw [bne_eq_false_iff_eq] at hdt; omega)
  have HP := Lib.hid (HR.out.right HS.out)
  have HN := Lib.hid (show ∀ t ∈ ts, ∀ v ∈ t.after, 0 ≤ v by
    intro t ht v hv
    obtain ⟨i, hi, rfl⟩ := List.getElem_of_mem ht
    obtain ⟨j, hj, rfl⟩ := List.getElem_of_mem hv
    exact ((HR.out.task i _ (List.getElem?_eq_getElem hi)).1.aft j _ (List.getElem?_eq_getElem hj)).1)
  have HTK := Lib.hid ((HA.out.later HB3.out).tks HN.out)
  have HLM := Lib.hid (show (ts.map TkI.toP).length = ts.length from List.length_map _)
  have hlong := HM.out.long (c := c) (n := n) HTK.out HP.out (by rw [HLM.out]; exact HC.out)
  rw [HLM.out] at hlong
  have HLO := Lib.hid hlong
  clear hlong
  go_wp2_with fail
  refine HLO.out.mono ?_
  rintro e w4 ⟨rfl, hb4⟩
  have HB4 := Lib.hid (below_step HB3.out hb4)
  have HX4 := Lib.hid (later_at hb4 HX3.out)
  have HTK4 := Lib.hid (HTK.out.later hb4)
  clear x0 x1 hb4 HX3 HB3 HTK HLO hdt
  have x0 := cellH HX4.out 0
  have x1 := cellH HX4.out 1
  simp at x0 x1
  have h8 : ts.length ≤ 8 := HR.out.few.2
  go_wp2_with fail
  go_loopw [8, 44] (fun f i wr => ∃ k : Nat, i = .int .i64 k ∧ k ≤ ts.length ∧ f = .bool (flatP ((ts.map TkI.toP).take k)) ∧ Below w4.heap.size w4 wr) (fun _ i _ => ts.length - (intOf i).toNat)
  case atStart => exact ⟨0, rfl, Nat.zero_le _, rfl, Below.refl _ _⟩
  case round =>
    obtain ⟨k, rfl, hk, rfl, hbw⟩ := hrel
    have HBW := Lib.hid hbw
    clear hbw x0 x1
    by_cases hlt : k < ts.length
    · obtain ⟨t, ht⟩ : ∃ t, ts[k]? = some t := ⟨_, List.getElem?_eq_getElem hlt⟩
      have HFT := Lib.hid (flatP_take ht)
      have HX5 := Lib.hid (later_at HBW.out HX4.out)
      obtain ⟨pa, B1, c1, rfl, p0, pj, _, _⟩ := (HA.out.later (below_step HB4.out HBW.out)).at_ ht
      have p1 := pj 1 _ rfl
      have p2 := pj 2 _ rfl
      have p3 := pj 3 _ rfl
      have p4 := pj 4 _ rfl
      have p5 := pj 5 _ rfl
      have p6 := pj 6 _ rfl
      clear pj ht
      have hk0 : (0 : Int) ≤ (k : Int) := by omega
      have hkl : (k : Int) < (ts.length : Int) := by omega
      obtain ⟨f, hf⟩ : ∃ f, f = flatP ((ts.map TkI.toP).take k) := ⟨_, rfl⟩
      rw [← hf] at HFT ⊢
      clear hf
      go_upto_region 8 with fail
      have hbc := (Below.refl wr.heap.size wr).alloc (Nat.le_refl _) (.cells (tkiA t B1 c1) 34)
      have HXC := Lib.hid (made_at wr (.cells (tkiA t B1 c1) 34))
      have HBC := Lib.hid (below_step HBW.out hbc)
      clear hbc p0 p1 p2 p3 p4 p5 p6
      generalize hWC : (wr.alloc (.cells (tkiA t B1 c1) 34)) = wc at *
      clear hWC
      have p1 := cellH HXC.out 1
      simp at p1
      cases f
      case false =>
        go_wp2_with fail
        go_roundw
        case rel => exact ⟨k + 1, by go_num, by omega, by rw [HFT.out]; rfl, HBC.out⟩
        case measure => simp [intOf]; omega
      case true =>
        by_cases ha : t.after.length = 0
        · have n1 : ((t.after.length : Int) == 0) = true := by rw [ha]; rfl
          have HAE := Lib.hid (show t.after.isEmpty = true by rw [List.isEmpty_iff]; exact List.eq_nil_of_length_eq_zero ha)
          clear ha
          go_wp2_with fail
          go_roundw
          case rel => exact ⟨k + 1, by go_num, by omega, by rw [HFT.out, HAE.out]; rfl, HBC.out⟩
          case measure => simp [intOf]; omega
        · have n1 : ((t.after.length : Int) == 0) = false := beq_eq_false_iff_ne.2 (by omega)
          have HAE := Lib.hid (show t.after.isEmpty = false by rw [List.isEmpty_eq_false_iff]; intro e; rw [e] at ha; exact ha rfl)
          clear ha
          go_wp2_with fail
          go_roundw
          case rel => exact ⟨k + 1, by go_num, by omega, by rw [HFT.out, HAE.out]; rfl, HBC.out⟩
          case measure => simp [intOf]; omega
    have hlk : ¬ (k : Int) < (ts.length : Int) := by omega
    have HB5 := Lib.hid (below_step HB4.out HBW.out)
    have HX5 := Lib.hid (later_at HBW.out HX4.out)
    have HTK5 := Lib.hid (HTK4.out.later HBW.out)
    have hft : flatP ((ts.map TkI.toP).take k) = flatP (ts.map TkI.toP) := by rw [List.take_of_length_le (by rw [List.length_map]; omega)]
    rw [hft]
    clear hft HB4 HX4 HTK4 HBW
    have x0 := cellH HX5.out 0
    have x1 := cellH HX5.out 1
    simp at x0 x1
    have HFEW := Lib.hid (HM.out.few _ HP.out)
    have HFLA := Lib.hid (HM.out.flat _ HP.out)
    have HONE := Lib.hid (HM.out.one _ HP.out)
    have hround := HM.out.round (c := c) (n := n) HTK5.out HP.out (by rw [HLM.out]; exact HC.out)
    rw [HLM.out] at hround
    have HRO := Lib.hid hround
    clear hround
    obtain ⟨f, hf⟩ : ∃ f, f = flatP (ts.map TkI.toP) := ⟨_, rfl⟩
    obtain ⟨L, hLL⟩ : ∃ L, L = longV ⟨n, ts.map TkI.toP⟩ := ⟨_, rfl⟩
    obtain ⟨R, hRR⟩ : ∃ R, R = roundV ⟨n, ts.map TkI.toP⟩ := ⟨_, rfl⟩
    simp only [← hLL, ← hf, ← hRR] at HFEW HFLA HONE HRO ⊢
    clear hf hLL hRR
    have g1 : ¬ (ts.length : Int) < L := by have := HFEW.out; simp only [HLM.out] at this; omega
    go_upto_region 10 with fail
    go_cut [7, 8, 80] (fun _ _ e wx => e = .bool false ∧ Below wr.heap.size wr wx)
    case first =>
      cases f
      case true =>
        obtain rfl : L = 1 := HFLA.out rfl
        go_wp2_with fail
        go_meet
        exact ⟨rfl, Below.refl _ _⟩
      case false =>
        by_cases h1 : L = 1
        · have HR0 := Lib.hid (show ¬ R < 0 from fun h => HONE.out rfl h h1)
          subst h1
          go_wp2_with fail
          refine HRO.out.mono ?_
          rintro e wx ⟨rfl, hbx⟩
          have n2 : ¬ R < 0 := by have := HR0.out; omega
          go_wp2_with fail
          go_meet
          exact ⟨by simp, hbx⟩
        · have n1 : (L == 1) = false := beq_eq_false_iff_ne.2 h1
          clear h1
          go_wp2_with fail
          go_meet
          exact ⟨rfl, Below.refl _ _⟩
    case rest =>
    obtain ⟨rfl, hbc⟩ := hcut
    have HB6 := Lib.hid (below_step HB5.out hbc)
    have HX6 := Lib.hid (later_at hbc HX5.out)
    have HTK6 := Lib.hid (HTK5.out.later hbc)
    clear hbc HB5 HX5 HTK5 x0 x1 HRO HONE HFLA HFEW g1
    have x0 := cellH HX6.out 0
    have x1 := cellH HX6.out 1
    simp at x0 x1
    have hds : IntKind.u64.wrap (ds.length : Int) = (ds.length : Int) := by rw [IntKind.wrap_u64]; have := HDT.out; omega
    have hd0 : ¬ (ds.length : Int) = 0 := by have := HDT.out; have := HR.out.few.1; omega
    have hd1 : ((ds.length : Int) == 0) = false := beq_eq_false_iff_ne.2 hd0
    go_upto_region 13 with fail
    obtain ⟨q, hq, hqd⟩ := mod_at m (n := ds.length) (by have := HDT.out; have := HR.out.few.1; omega) (by have := HDT.out; omega)
    rw [hq]
    have HQ := Lib.hid hqd
    clear hds hd0 hd1 hq
    have hready := HM.out.ready (c := c) (n := n) HTK6.out HP.out (by rw [HLM.out]; exact HC.out) (HD.out.later HB6.out) Hd.out (by have := HDT.out; omega)
    rw [HLM.out] at hready
    obtain ⟨rs, hrs⟩ : ∃ rs, rs = readyP ⟨n, ts.map TkI.toP⟩ ds := ⟨_, rfl⟩
    rw [← hrs] at hready
    have HRS := Lib.hid hrs
    have HRL := Lib.hid (show rs.length ≤ 8 by rw [hrs]; exact Nat.le_trans (readyP_len _ _) (by simp only [HLM.out]; omega))
    have HRE := Lib.hid hready
    clear hready hrs
    go_wp2_with fail
    refine HRE.out.mono ?_
    rintro e w7 ⟨⟨B, b, rfl, hB⟩, hb7⟩
    have HB7 := Lib.hid (below_step HB6.out hb7)
    have HX7 := Lib.hid (later_at hb7 HX6.out)
    have HTK7 := Lib.hid (HTK6.out.later hb7)
    have HNB := Lib.hid hB
    clear hB hb7 HRE x0 x1 HX6 HTK6 HB6
    obtain ⟨i0, hi, hz0, hz1, hz2⟩ := info_of info_boolO
    have hd1 : 0 < ds.length := by omega
    have hd8 : ds.length ≤ 8 := by have := HDT.out; omega
    obtain ⟨ad, rfl, hdc⟩ := (HD.out.later HB7.out).cells hd1
    have HDC := Lib.hid (show ∀ (j : Nat) (u : Value), (ds.map Value.bool)[j]? = some u → (w7.alloc (.cells #[] 4)).cell? (ad.add j) = some u from fun j u h => cell_later ((Below.refl _ _).alloc (Nat.le_refl _) _) (hdc j u h))
    clear hdc
    go_upto_region 15 with (at_builtin; refine wpList_append_own _ rfl (.tmp 91) (.tmp 92) 25 rfl w7.heap.size 4 i0 _ 1 1 Try.underlying25 hi hz0 hz1 hz2 rfl (by omega) (.slice (some ⟨w7.heap.size, 0, none⟩) 0 0) 0 [] rfl (World.ownsRow_lit w7 #[] 0 (Nat.le_refl _) (by unfold maxLen; omega) rfl) ad ds.length d (ds.map Value.bool) rfl (by simp) HDC.out (by intro u hu; obtain ⟨x, _, rfl⟩ := List.mem_map.1 hu; rfl) (by unfold maxLen; omega) (by omega) (by simp) ?_; intro v1 w8 hown8 hg8 _)
    have hown : w8.ownsRow w7.heap.size 4 1 v1 ds.length (ds.map Value.bool) := by simpa using hown8
    have hB8 : Below w7.heap.size w7 w8 := ((Below.refl w7.heap.size w7).alloc (Nat.le_refl _) _).grown hg8 (by simp) (by simp [Value.ownBlock])
    clear hown8 hg8
    obtain ⟨g, cap, rfl, hcap, hgb, hbo⟩ := bools_of_own hown hd1
    have HOWN := Lib.hid hown
    have HB8 := Lib.hid hB8
    have HGB := Lib.hid hgb
    have hq0 : (0 : Int) ≤ (q : Int) := by omega
    have hql : (q : Int) < (ds.length : Int) := by omega
    obtain ⟨x, hx⟩ : ∃ x, ds[q]? = some x := ⟨_, List.getElem?_eq_getElem hqd⟩
    obtain ⟨ad2, e2, y0⟩ := hbo.at_ hx
    obtain rfl : (⟨g, 0, none⟩ : Addr) = ad2 := by injection e2
    have y1 : w8.cell? ⟨g, q, none⟩ = some (.bool x) := by
      have ha : (⟨g, 0, none⟩ : Addr).add q = ⟨g, q, none⟩ := by unfold Addr.add; split <;> simp_all
      rwa [ha] at y0
    have y2 : w8.frozen? ⟨g, q, none⟩ = false := hown.frozenAt q
    have HDL := Lib.hid hd1
    clear hown hB8 hbo e2 hx hd1 HDC y0 hgb
    go_upto_region 16 with fail
    have hst := HOWN.out.stored q (.bool true)
    have hb9 : Below w7.heap.size w7 (w8.setCell ⟨g, q, none⟩ (.bool true)) := HB8.out.setCell HGB.out _
    generalize hW9 : w8.setCell ⟨g, q, none⟩ (.bool true) = w9 at *
    rw [show (ds.map Value.bool).set q (.bool true) = (ds.set q true).map Value.bool by rw [List.map_set]] at hst
    have hlen : (ds.set q true).length = ds.length := List.length_set ..
    have hown9 : w9.ownsRow w7.heap.size 4 1 (.slice (some ⟨g, 0, none⟩) (ds.set q true).length cap) (ds.set q true).length ((ds.set q true).map Value.bool) := by rw [hlen]; exact hst.1
    obtain ⟨g', cap', e3, hcap', _, hbo⟩ := bools_of_own hown9 (by rw [hlen]; exact HDL.out)
    obtain ⟨rfl, rfl⟩ : g = g' ∧ cap = cap' := by
      injection e3 with e4 _ e5
      injection e4 with e4
      injection e4 with e4
      exact ⟨e4, e5⟩
    have l9 : Below w9.heap.size w9 (w9.alloc (.map #[] 0)) := (Below.refl _ _).alloc (Nat.le_refl _) _
    have HB10 := Lib.hid (below_step hb9 l9)
    have HX10 := Lib.hid (later_at HB10.out HX7.out)
    have HTK10 := Lib.hid (HTK7.out.later HB10.out)
    have HMP := Lib.hid (show MapOf (w9.alloc (.map #[] 0)) Try.prog 3 4 w9.heap.size (readyP ⟨n, ts.map TkI.toP⟩ (ds.set q true)) 0 from MapOf.made w9 Try.prog 3 4 _)
    have hready := HM.out.ready (c := c) (n := n) HTK10.out HP.out (by rw [HLM.out]; exact HC.out) (hbo.later l9) hcap' (by rw [hlen]; exact hd8)
    rw [HLM.out, hlen] at hready
    have HS9 := Lib.hid (hb9.size)
    clear hst hb9 hown9 e3 hcap' hbo l9 hlen y1 y2 HB8 HOWN hW9
    have hmm := @run_makeMap Try.prog
    go_upto_region 17 with fail
    clear hmm
    obtain ⟨w10, hw10⟩ : ∃ w10, w10 = w9.alloc (.map #[] 0) := ⟨_, rfl⟩
    rw [← hw10] at HB10 HX10 HTK10 HMP hready ⊢
    clear hw10 HX7 HTK7
    obtain ⟨zs, hzs⟩ : ∃ zs, zs = readyP ⟨n, ts.map TkI.toP⟩ (ds.set q true) := ⟨_, rfl⟩
    rw [← hzs] at hready HMP
    have HZS := Lib.hid hzs
    have HZL := Lib.hid (show zs.length ≤ 8 by rw [hzs]; exact Nat.le_trans (readyP_len _ _) (by simp only [HLM.out]; omega))
    have HRE := Lib.hid hready
    clear hready hzs
    have x0 := cellH HX10.out 0
    have x1 := cellH HX10.out 1
    simp at x0 x1
    go_wp2_with fail
    refine HRE.out.mono ?_
    rintro e w11 ⟨⟨B2, b2, rfl, hB2⟩, hb11⟩
    have HB11 := Lib.hid (below_step HB10.out hb11)
    have HMP11 := Lib.hid (HMP.out.later hb11)
    have HB2 := Lib.hid hB2
    clear hb11 hB2 x0 x1 HRE HMP HX10 HTK10
    go_wp2_with fail
    have hzl : zs.length ≤ 8 := HZL.out
    have hrl : rs.length ≤ 8 := HRL.out
    go_loopw [102] (fun i wr => ∃ k : Nat, i = .int .i64 k ∧ k ≤ zs.length ∧ Hid (Below w7.heap.size w7 wr) ∧ Hid (NatsAt wr B2 zs) ∧ Hid (MapOf wr Try.prog 3 4 w9.heap.size zs k)) (fun i _ => zs.length - (intOf i).toNat)
    case atStart => exact ⟨0, rfl, Nat.zero_le _, HB11, HB2, HMP11⟩
    case round =>
      clear HB11 HB2 HMP11
      obtain ⟨k2, rfl, hk2, HBR, HB2, HMP⟩ := hrel
      by_cases hlt2 : k2 < zs.length
      · obtain ⟨x, hx⟩ : ∃ x, zs[k2]? = some x := ⟨_, List.getElem?_eq_getElem hlt2⟩
        have hx8 : x < 8 := by
          have h1 : x ∈ readyP ⟨n, ts.map TkI.toP⟩ (ds.set q true) := by rw [← HZS.out]; exact List.mem_of_getElem? hx
          have h2 := List.mem_range.1 (List.mem_filter.1 h1).1
          simp only [HLM.out] at h2
          omega
        obtain ⟨ad3, rfl, c0⟩ := HB2.out.at_ hx
        have HGX := Lib.hid hx
        have HK := Lib.hid (keyIO (a := x) (by omega))
        obtain ⟨M, m1, m2, m3⟩ := HMP.out
        have M1 := Lib.hid m1
        have M2 := Lib.hid m2
        have M3 := Lib.hid m3
        have hk0 : (0 : Int) ≤ (k2 : Int) := by omega
        have hkl : (k2 : Int) < (zs.length : Int) := by omega
        clear hx m1 m2 m3 HMP hx8
        go_wp2_with (at_mapUpdate; refine wpList_mapUpdate_own _ rfl _ _ _ 37 rfl 3 4 lawIO Try.underlying37 _ w9.heap.size k2 _ rfl M1.out (by unfold maxLen; omega) _ _ _ rfl rfl HK.out _ [] (plainElem_bool Try.underlying4 true) ?_; intro w6 m6 hg6)
        have hb6 : Below w7.heap.size w7 w6 := HBR.out.grown hg6 HBR.out.size (fun q hq => by injection hq with hq; have := HS9.out; omega)
        go_roundw
        case rel => exact ⟨k2 + 1, by go_num, by omega, Lib.hid hb6, Lib.hid (HB2.out.keep fun a v h => cell_mapO M1.out hg6 h), Lib.hid (mapOf_put M2.out M3.out HGX.out m6)⟩
        case measure => simp [intOf]; omega
      · obtain rfl : k2 = zs.length := by omega
        have hlk : ¬ (zs.length : Int) < (zs.length : Int) := by omega
        obtain ⟨M, m1, _, m3⟩ := HMP.out
        have M1 := Lib.hid m1
        have M3 := Lib.hid (show ∀ (x : Nat) (b : Bool), M.atKey (.int .i64 x) (.lit (.bool false)) = .lit (.bool b) → b = decide (x ∈ zs) from fun x b hb => by
          rw [m3 x, List.take_length] at hb
          injection hb with hb
          injection hb with hb
          exact hb.symm)
        clear m1 m3 HMP HB2
        obtain ⟨wo, rfl⟩ : ∃ wo : World, wo = wr := ⟨_, rfl⟩
        go_wp2_with fail
        go_loopw [111] (fun i wr => ∃ k : Nat, i = .int .i64 k ∧ k ≤ rs.length ∧ wr = wo) (fun i _ => rs.length - (intOf i).toNat)
        case atStart => exact ⟨0, rfl, Nat.zero_le _, rfl⟩
        case round =>
          obtain ⟨k3, rfl, hk3, rfl⟩ := hrel
          by_cases hlt3 : k3 < rs.length
          · obtain ⟨y, hy⟩ : ∃ y, rs[k3]? = some y := ⟨_, List.getElem?_eq_getElem hlt3⟩
            obtain ⟨ad4, rfl, c0⟩ := (HNB.out.later HBR.out).at_ hy
            have hk0 : (0 : Int) ≤ (k3 : Int) := by omega
            have hkl : (k3 : Int) < (rs.length : Int) := by omega
            by_cases hyq : y = q
            · have n1 : ((y : Int) != (q : Int)) = false := by rw [hyq, bne_self_eq_false]
              clear hy hyq
              go_wp2_with fail
              go_roundw
              case rel => exact ⟨k3 + 1, by go_num, by omega, by first | rfl | trivial⟩
              case measure => simp [intOf]; omega
            · have n1 : ((y : Int) != (q : Int)) = true := by rw [bne_iff_ne]; omega
              have hyz : y ∈ zs := by
                rw [HZS.out]
                exact readyP_more (by rw [← HRS.out]; exact List.mem_of_getElem? hy) hyq
              have HYZ := Lib.hid hyz
              have hy8 : y < 8 := by
                have h2 := List.mem_range.1 (List.mem_filter.1 (show y ∈ readyP ⟨n, ts.map TkI.toP⟩ (ds.set q true) by rw [← HZS.out]; exact hyz)).1
                simp only [HLM.out] at h2
                omega
              have HK := Lib.hid (keyIO (a := y) (by omega))
              clear hy hyq hyz hy8
              go_wp2_with (at_lookup; (refine wpList_lookup_ownG _ (by rfl) _ _ 37 rfl 3 4 lawIO Try.underlying37 Try.underlying4 (zeroBoolO _) w9.heap.size zs.length M rfl M1.out _ _ rfl HK.out ?_; intro b hb; obtain rfl : b = true := (M3.out _ _ hb).trans (decide_eq_true HYZ.out); clear hb))
              go_roundw
              case rel => exact ⟨k3 + 1, by go_num, by omega, by first | rfl | trivial⟩
              case measure => simp [intOf]; omega
          · have hlk3 : ¬ (k3 : Int) < (rs.length : Int) := by omega
            have HK := Lib.hid (keyIO (a := q) (by omega))
            have HNO := Lib.hid (show ¬ q ∈ zs by rw [HZS.out]; exact readyP_done HQ.out)
            have HBF := Lib.hid (below_step HB0.out (below_step HB7.out HBR.out))
            go_wp2_with (at_lookup; refine wpList_lookup_ownB _ rfl _ _ 37 rfl 3 4 lawIO Try.underlying37 Try.underlying4 (zeroBoolO _) w9.heap.size zs.length M rfl M1.out _ _ rfl HK.out ?_; intro b hb; obtain rfl : b = false := (M3.out _ _ hb).trans (decide_eq_false HNO.out); clear hb)
            go_ret
            exact ⟨rfl, HBF.out⟩
end
end Go.Proofs.Ytpndjeccfdcjpaa
