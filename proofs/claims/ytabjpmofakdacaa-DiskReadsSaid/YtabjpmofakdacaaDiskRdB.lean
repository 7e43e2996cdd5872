/-
  The law DiskReads, walked. No conditions but how the arguments lie in memory.
-/
import Derived.Test.YtabjpmofakdacaaDiskRdA
import Derived.Test.YtabjpmofakdacaaDiskPlaysB
import Derived.Outline
namespace Go.Proofs.Ytabjpmofakdacaa
open Go.RowKit
open Go.Maps (Keyed IsMap int_keyed keyOf_int_mk)

theorem cells_map {w w' : World} {b g : Nat} {cs : Array Value} {t : TypeId} {m : Nat × Nat} {es : Array MapEntry} {clock : Nat} (hg : w.heap[g]? = some (.cells cs t m)) (hb : w.heap[b]? = some (.map es clock)) (h : w.grownBy w' (some b)) : w'.heap[g]? = some (.cells cs t m) := by
  rw [h.block g (Array.getElem?_eq_some_iff.1 hg).1 (fun e => by injection e with e; rw [e, hb] at hg; cases hg)]
  exact hg
theorem zeroS (w : World) : (zeroValue 9).run Try.prog w = .ok (.string ⟨#[]⟩) w := by kernel_rfl

section
variable {A : Option Addr} {n c : Nat} {kd pl : Nat → Int} {tx : Nat → ByteArray} {rw_ : Nat → Bool} {ca cb : Nat → Int} {w : World}
set_option maxHeartbeats 1000000 in
set_option maxRecDepth 100000 in
theorem reads_long (h1 : 100 < n) : Calls Try.prog 7 #[.slice A n c] w fun e w' => e = .returned (.bool true) ∧ Below w.heap.size w w' := by
  go_enter Try.func7, Try.ntmps7
  go_wp2_with fail
  refine (awake_true _).mono ?_
  rintro e w1 ⟨rfl, hb1⟩
  go_wp2_with fail
  refine (awake_true _).mono ?_
  rintro e w2 ⟨rfl, hb2⟩
  have hB := below_step hb1 hb2
  clear hb1 hb2
  go_wp2_with fail
  go_ret
  exact ⟨rfl, hB⟩

set_option maxHeartbeats 2000000 in
set_option maxRecDepth 100000 in
theorem reads_good (hA : OpsAt w A n kd pl tx rw_ ca cb) (ho : ∀ i, i < n → OpOk (pl i) (tx i) (ca i) (cb i)) (h1 : ¬ 100 < n) :
    Calls Try.prog 7 #[.slice A n c] w fun e w' => e = .returned (.bool true) ∧ Below w.heap.size w w' := by
  have HA := Lib.hid hA
  have HX := Lib.hid (fun i hi => (ho i hi).s1)
  have hmm := @run_makeMap Try.prog
  obtain ⟨pn, hpn⟩ : ∃ pn : Nat → Nat, pn = fun i => modF (pl i) := ⟨_, rfl⟩
  have HPN := Lib.hid hpn
  clear hA ho hpn
  go_enter Try.func7, Try.ntmps7
  go_wp2_with fail
  refine (awake_true _).mono ?_
  rintro e w1 ⟨rfl, hb1⟩
  have HB1 := Lib.hid hb1
  clear hb1
  go_wp2_with fail
  refine (dnew_yes 8 _ (by omega) (by omega)).mono ?_
  rintro e w2 ⟨D, rfl, hd2, hb2⟩
  have HD2 := Lib.hid (diskAt_frame (diskAt_mono hd2 HB1.out.size) (OnlyT.of_below ((Below.refl _ _).alloc (Nat.le_refl _) (.map #[] 0))))
  have HB2 := Lib.hid (below_step HB1.out hb2)
  have HB3 := Lib.hid (HB2.out.alloc HB2.out.size (.map #[] 0))
  have HM := Lib.hid (MapLast.made w2 Try.prog 3 9)
  have hM0 := HB2.out.size
  clear HB1 hd2 hb2 HB2
  go_wp2_with fail
  go_loopw [29] (fun j wr => ∃ (k : Nat) (st : Dk), k ≤ n ∧ j = .int .i64 k ∧ RdS pn tx k st ∧ DiskAt wr w.heap.size D st ∧ MapLast wr Try.prog 3 9 w2.heap.size k (lastF pn tx k) ∧ Below w.heap.size w wr) (fun j _ => n - (intOf j).toNat)
  case atStart => exact ⟨0, newS 8, Nat.zero_le _, rfl, rdS_new, HD2.out, HM.out, HB3.out⟩
  case round =>
    clear HD2 HB3 HM
    obtain ⟨k, st, hk, rfl, hS, hD, hM, hB⟩ := hrel
    have HS := Lib.hid hS
    have HD := Lib.hid hD
    have HM := Lib.hid hM
    have HB := Lib.hid hB
    clear hS hD hM hB
    by_cases hlt : k < n
    · obtain ⟨ad, e, hcell⟩ := HA.out (by omega)
      subst e
      obtain ⟨x0, x1, x2, x3, x4, x5⟩ := hcell k hlt
      have hold : ∀ {a : Addr} {v : Value}, w.cell? a = some v → wr.cell? a = some v := fun h => by rw [HB.out.cell (World.block_lt_of_cell? _ _ h)]; exact h
      replace x0 := hold x0
      replace x1 := hold x1
      replace x2 := hold x2
      replace x3 := hold x3
      replace x4 := hold x4
      replace x5 := hold x5
      clear hold hcell
      have ht := HX.out k hlt
      obtain ⟨hm1, hm2⟩ := modF_is (pl k)
      have hpk : modF (pl k) = pn k := by rw [HPN.out]
      rw [hpk] at hm1 hm2
      have HW := Lib.hid (HS.out.write hm2)
      generalize kd k = kdk at x0
      generalize rw_ k = rwk at x3
      generalize ca k = cak at x4
      generalize cb k = cbk at x5
      clear hpk
      by_cases hlen : 200 < (tx k).size
      · go_wp2_with fail
        go_ret
        exact ⟨rfl, HB.out.alloc HB.out.size _⟩
      · have hal : Below wr.heap.size wr (wr.alloc (.cells #[.int .i64 kdk, .int .i64 (pl k), .string (tx k), .bool rwk, .int .i64 cak, .int .u64 cbk] 34)) := (Below.refl _ _).alloc (Nat.le_refl _) _
        have hO : (wr.alloc (.cells #[.int .i64 kdk, .int .i64 (pl k), .string (tx k), .bool rwk, .int .i64 cak, .int .u64 cbk] 34)).heap[wr.heap.size]? = some (.cells #[.int .i64 kdk, .int .i64 (pl k), .string (tx k), .bool rwk, .int .i64 cak, .int .u64 cbk] 34 (0, 0)) := heap_alloc_new wr _
        have HO := Lib.hid hO
        have HD1 := Lib.hid (diskAt_frame HD.out (OnlyT.of_below hal))
        have HM1 := Lib.hid (HM.out.later hal)
        have HB1 := Lib.hid (HB.out.alloc HB.out.size (.cells #[.int .i64 kdk, .int .i64 (pl k), .string (tx k), .bool rwk, .int .i64 cak, .int .u64 cbk] 34))
        have hk1 : st.cache.length < 1000000 := by have := HS.out.cache; omega
        have hk2 : st.writes ≤ 1000000 := by rw [HS.out.writes]; omega
        clear hal hO HD HM HB
        go_wp2_with fail
        refine (fill_is _ ht _).mono ?_
        rintro e _ ⟨rfl, rfl⟩
        go_wp2_with fail
        refine (dwrite_is HD1.out HB1.out.size hk1 hk2 _ _).mono ?_
        rintro e w4 ⟨rfl, hd4, ho4⟩
        rw [HW.out.2]
        have HD4 := Lib.hid hd4
        have HS4 := Lib.hid HW.out.1
        have HO4 := Lib.hid (heap_frame ho4 HO.out (by decide))
        have HM4 := Lib.hid (HM1.out.only ho4)
        have HB4 := Lib.hid (HB1.out.trans (ho4.below HB1.out.size))
        clear hd4 ho4 HO HD1 HM1 HB1 x0 x1 x2 x3 x4 x5 hk1 hk2
        generalize writeS st (pn k) (fillB (tx k)) = s4 at HD4 HS4
        have z2 := cell_heap (i := 2) HO4.out
        simp at z2
        go_wp2_with fail
        refine (fill_is _ ht _).mono ?_
        rintro e _ ⟨rfl, rfl⟩
        obtain ⟨Dm, hown, hIs, hLs⟩ := HM4.out
        have HOWN := Lib.hid hown
        have HIS := Lib.hid hIs
        have HLS := Lib.hid hLs
        have hkey : keyOf Try.prog 3 (.int .i64 (pn k)) = some (.int .i64 (pn k : Int)) := keyOf_int_mk Try.underlying3 (WalkArith.wf_i64 (by omega))
        have hval := plainElem_string (H := Unit) (P := Try.prog) Try.underlying9 (s := fillB (tx k)) (by rw [fillB_size]; decide)
        clear hown hIs hLs
        by_cases hkd : kdk = 2
        · subst hkd
          have HF := Lib.hid HS4.out.flush
          go_wp2_with (at_mapUpdate; refine wpList_mapUpdate_own _ rfl _ _ _ 57 rfl 3 9 (int_keyed Try.underlying3) Try.underlying57 _ w2.heap.size k Dm rfl HOWN.out (by unfold maxLen; omega) _ _ _ rfl rfl hkey _ [] hval ?_; intro w5 hown5 hg5; obtain ⟨es, clock, hmb⟩ := HM4.out.isMap; have HD5 := Lib.hid (diskAt_map HD4.out hmb hg5); have HO5 := Lib.hid (cells_map HO4.out hmb hg5); have HM5 := Lib.hid (mapLast_put (a := pn k) (s := fillB (tx k)) HIS.out HLS.out hown5); have HB5 := Lib.hid (HB4.out.grown hg5 HB4.out.size (fun b e => by injection e with e; omega)); have z0 := cell_heap (i := 0) HO5.out; simp at z0; clear hown5 hg5 hmb)
          refine (dflush_is HD5.out (by have := HS4.out.cache; omega)).mono ?_
          rintro e w6 ⟨rfl, hd6, ho6⟩
          have HD6 := Lib.hid hd6
          have HM6 := Lib.hid (HM5.out.only ho6)
          have HB6 := Lib.hid (HB5.out.trans (ho6.below HB5.out.size))
          clear hd6 ho6 HD5 HM5 HB5 z0
          go_wp2_with fail
          go_roundw
          case rel => exact ⟨k + 1, _, by omega, by go_num, HF.out.1, HD6.out, HM6.out, HB6.out⟩
          case measure => simp [intOf]; omega
        · have hkb : (kdk == 2) = false := by simpa using hkd
          go_wp2_with (at_mapUpdate; refine wpList_mapUpdate_own _ rfl _ _ _ 57 rfl 3 9 (int_keyed Try.underlying3) Try.underlying57 _ w2.heap.size k Dm rfl HOWN.out (by unfold maxLen; omega) _ _ _ rfl rfl hkey _ [] hval ?_; intro w5 hown5 hg5; obtain ⟨es, clock, hmb⟩ := HM4.out.isMap; have HD5 := Lib.hid (diskAt_map HD4.out hmb hg5); have HO5 := Lib.hid (cells_map HO4.out hmb hg5); have HM5 := Lib.hid (mapLast_put (a := pn k) (s := fillB (tx k)) HIS.out HLS.out hown5); have HB5 := Lib.hid (HB4.out.grown hg5 HB4.out.size (fun b e => by injection e with e; omega)); have z0 := cell_heap (i := 0) HO5.out; simp at z0; clear hown5 hg5 hmb)
          go_roundw
          case rel => exact ⟨k + 1, _, by omega, by go_num, HS4.out, HD5.out, HM5.out, HB5.out⟩
          case measure => simp [intOf]; omega
    · obtain rfl : k = n := by omega
      go_wp2_with fail
      go_loopw [66] (fun j wx => ∃ i : Nat, i ≤ 8 ∧ j = .int .i64 i ∧ DiskAt wx w.heap.size D st ∧ MapLast wx Try.prog 3 9 w2.heap.size k (lastF pn tx k) ∧ Below w.heap.size w wx) (fun j _ => 8 - (intOf j).toNat)
      case atStart => exact ⟨0, Nat.zero_le _, rfl, HD.out, HM.out, HB.out⟩
      case round =>
        clear HD HM HB
        obtain ⟨i, hi, rfl, hD, hM, hB⟩ := hrel
        have HD := Lib.hid hD
        have HM := Lib.hid hM
        have HB := Lib.hid hB
        clear hD hM hB
        have hc := HS.out.cache
        by_cases hi8 : i < 8
        · have HR := Lib.hid (HS.out.read i hi8)
          have HE := Lib.hid (HS.out.readE hi8)
          cases hL : lastF pn tx k i with
          | none =>
            rw [hL] at HR
            have hz1 : ∀ W : World, (Instr.makeSlice 52 (.int .i64 64) (.int .i64 64)).run Try.prog W = .ok (.slice (some ⟨W.heap.size, 0, none⟩) 64 64) (W.alloc (.cells (madeCells #[.int .u8 0] 64) 5)) := fun W => run_zero 64 (Nat.le_refl _) W
            have hz2 := conv_zero 64 wr
            have hal : Below wr.heap.size wr (wr.alloc (.cells (madeCells #[.int .u8 0] 64) 5)) := (Below.refl _ _).alloc (Nat.le_refl _) _
            have HD1 := Lib.hid (diskAt_frame HD.out (OnlyT.of_below hal))
            have HM1 := Lib.hid (HM.out.later hal)
            have HB1 := Lib.hid (HB.out.alloc HB.out.size (.cells (madeCells #[.int .u8 0] 64) 5))
            have HRD := Lib.hid (dread_is HD1.out i (by omega))
            have hR := HR.out
            rw [HE.out, hR] at HRD
            simp only [Option.getD_none] at HRD
            clear hR hal
            go_wp2_with (at_lookup; refine wpList_lookup_last _ rfl _ _ 57 rfl (int_keyed Try.underlying3) Try.underlying3 Try.underlying57 Try.underlying9 (zeroS _) i hi8 rfl HM.out rfl ?_; rw [hL]; simp only [Option.getD_none, Option.isSome_none])
            refine HRD.out.mono ?_
            rintro e _ ⟨rfl, rfl⟩
            clear HRD
            generalize zeroB 64 = wv
            have b3 : (wv.toList == wv.toList) = true := by simp
            go_wp2_with fail
            go_roundw
            case rel => exact ⟨i + 1, by omega, by go_num, HD1.out, HM1.out, HB1.out⟩
            case measure => simp [intOf]; omega
          | some s =>
            rw [hL] at HR
            have HRD := Lib.hid (dread_is HD.out i (by omega))
            have hR := HR.out
            rw [HE.out, hR] at HRD
            simp only [Option.getD_some] at HRD
            clear hR
            go_wp2_with (at_lookup; refine wpList_lookup_last _ rfl _ _ 57 rfl (int_keyed Try.underlying3) Try.underlying3 Try.underlying57 Try.underlying9 (zeroS _) i hi8 rfl HM.out rfl ?_; rw [hL]; simp only [Option.getD_some, Option.isSome_some])
            refine HRD.out.mono ?_
            rintro e _ ⟨rfl, rfl⟩
            clear HRD
            generalize s = wv
            have b3 : (wv.toList == wv.toList) = true := by simp
            go_wp2_with fail
            go_roundw
            case rel => exact ⟨i + 1, by omega, by go_num, HD.out, HM.out, HB.out⟩
            case measure => simp [intOf]; omega
        · obtain rfl : i = 8 := by omega
          have HF := Lib.hid HS.out.flush
          have HFL := Lib.hid (dflush_is HD.out (by omega))
          rw [HF.out.2] at HFL
          go_wp2_with fail
          refine HFL.out.mono ?_
          rintro e w9 ⟨rfl, hd9, ho9⟩
          have HD9 := Lib.hid hd9
          have HB9 := Lib.hid (HB.out.trans (ho9.below HB.out.size))
          clear hd9 ho9 HFL HD HM HB
          have hw := HF.out.1.writes
          go_wp2_with fail
          refine (dwrites_is HD9.out).mono ?_
          rintro e _ ⟨rfl, rfl⟩
          rw [hw]
          clear hw
          go_wp2_with fail
          go_ret
          exact ⟨rfl, HB9.out⟩

theorem reads_walk (hA : OpsAt w A n kd pl tx rw_ ca cb) (ho : ∀ i, i < n → OpOk (pl i) (tx i) (ca i) (cb i)) :
    Calls Try.prog 7 #[.slice A n c] w fun e w' => e = .returned (.bool true) ∧ Below w.heap.size w w' := by
  by_cases h1 : 100 < n
  · exact reads_long h1
  · exact reads_good hA ho h1
end
end Go.Proofs.Ytabjpmofakdacaa
