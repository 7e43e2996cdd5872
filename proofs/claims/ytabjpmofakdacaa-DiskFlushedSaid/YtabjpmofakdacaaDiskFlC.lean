/-
  The law DiskFlushed, walked; lists of texts that come in as arguments, opened. No conditions but how the arguments lie in memory.
-/
import Derived.Test.YtabjpmofakdacaaDiskFlA
import Derived.Test.YtabjpmofakdacaaDiskR
import Derived.ProofKit
import Derived.OpenShut
import Derived.ChangeOld
import Derived.Deep.Slices
import Derived.SliceStrings
import Derived.Lib.SmallJoins
import Derived.Outline
namespace Go.Proofs.Ytabjpmofakdacaa
open Go.ChangeShapes Go.WideShapes Go.ChangeAt Go.RowKit Go.Joins Go.Deep

/-- n texts stand at A. -/
def StrsAt (w : World) (A : Option Addr) (n : Nat) (tx : Nat → ByteArray) : Prop := 0 < n → ∃ ad, A = some ad ∧ ∀ i, i < n → w.cell? (ad.add i) = some (.string (tx i))

theorem strs_open {H : Type} {enc : TypeId × Value → H} {w : World} {base : Nat} {spare : Nat → Bool} {held : Bool} (cellsS : Try.prog.cellsOf 9 = 1) {fuel : Nat} {A : Option Addr} {n c : Nat} {x : DataW H × List MemPlace} (h : DataW.trod enc Try.prog w base spare held fuel 46 [.slice A n c] = some x) :
    ∃ tx : Nat → ByteArray, StrsAt w A n tx ∧ ∀ i, i < n → (tx i).size ≤ maxLen := by
  rcases open_strings Try.underlying46 Try.underlying9 cellsS h with ⟨h0, _⟩ | ⟨a, len, cap, ss, hcs, _, hl, _, hss, _, hc, hz⟩
  · injection h0 with h0
    injection h0 with hA hn hc
    subst hA hn hc
    exact ⟨fun _ => ⟨#[]⟩, fun h => absurd h (by omega), fun i hi => absurd hi (by omega)⟩
  · injection hcs with hcs
    injection hcs with hA hn hc'
    subst hA hn hc'
    have hm : n ≤ ss.length := by rw [hss]; split <;> omega
    refine ⟨fun i => ss.getD i ByteArray.empty, fun _ => ⟨a, rfl, fun i hi => hc i (by omega)⟩, fun i hi => hz _ ?_⟩
    simp [show i < ss.length by omega]

theorem below_step {w a b : World} (h : Below w.heap.size w a) (k : Below a.heap.size a b) : Below w.heap.size w b := h.trans (k.mono h.size)

section
variable {A B : Option Addr} {n1 n2 c1 c2 : Nat} {tx ty : Nat → ByteArray} {w : World}
set_option maxHeartbeats 1000000 in
set_option maxRecDepth 100000 in
theorem flushed_long (b : Int) (h : 30 < n1 ∨ 30 < n2) : Calls Try.prog 4 #[.slice A n1 c1, .slice B n2 c2, .int .u64 b] w fun e w' => e = .returned (.bool true) ∧ Below w.heap.size w w' := by
  by_cases h1 : 30 < n1
  · clear h
    go_enter Try.func4, Try.ntmps4
    go_wp2_with fail
    refine (awake_true _).mono ?_
    rintro e w1 ⟨rfl, hb1⟩
    go_wp2_with fail
    refine (awake_true _).mono ?_
    rintro e w2 ⟨rfl, hb2⟩
    have hB := below_step hb1 hb2
    clear hb1 hb2
    go_wp2_with fail
    go_ret
    exact ⟨rfl, hB⟩
  · have h2 : 30 < n2 := by omega
    clear h
    go_enter Try.func4, Try.ntmps4
    go_wp2_with fail
    refine (awake_true _).mono ?_
    rintro e w1 ⟨rfl, hb1⟩
    go_wp2_with fail
    refine (awake_true _).mono ?_
    rintro e w2 ⟨rfl, hb2⟩
    have hB := below_step hb1 hb2
    clear hb1 hb2
    go_wp2_with fail
    go_ret
    exact ⟨rfl, hB⟩

set_option maxHeartbeats 2000000 in
set_option maxRecDepth 100000 in
theorem flushed_good (b : Int) (hb : 0 ≤ b ∧ b ≤ 18446744073709551615) (hA : StrsAt w A n1 tx) (hB : StrsAt w B n2 ty) (h1 : ¬ 30 < n1) (h2 : ¬ 30 < n2) (hx : ∀ i, i < n1 → (tx i).size ≤ maxLen) (hy : ∀ i, i < n2 → (ty i).size ≤ maxLen) :
    Calls Try.prog 4 #[.slice A n1 c1, .slice B n2 c2, .int .u64 b] w fun e w' => e = .returned (.bool true) ∧ Below w.heap.size w w' := by
  have HA := Lib.hid hA
  have HB := Lib.hid hB
  have HX := Lib.hid hx
  have HY := Lib.hid hy
  have HBB := Lib.hid hb
  clear hA hB hx hy hb
  go_enter Try.func4, Try.ntmps4
  go_wp2_with fail
  refine (awake_true _).mono ?_
  rintro e w1 ⟨rfl, hb1⟩
  have HB1 := Lib.hid hb1
  clear hb1
  go_wp2_with fail
  refine (dnew_yes 30 _ (by omega) (by omega)).mono ?_
  rintro e w2 ⟨D, rfl, hd2, hb2⟩
  have HD2 := Lib.hid (diskAt_mono hd2 HB1.out.size)
  have HB2 := Lib.hid (below_step HB1.out hb2)
  clear HB1 hd2 hb2
  go_wp2_with fail
  go_loopw [38] (fun j wr => ∃ k : Nat, k ≤ n1 ∧ j = .int .i64 k ∧ DiskAt wr w.heap.size D (st1 tx k) ∧ Below w.heap.size w wr) (fun j _ => n1 - (intOf j).toNat)
  case atStart => exact ⟨0, Nat.zero_le _, rfl, HD2.out, HB2.out⟩
  case round =>
    clear HD2 HB2
    obtain ⟨k, hk, rfl, hD, hB⟩ := hrel
    have HD := Lib.hid hD
    have HBB1 := Lib.hid hB
    clear hD hB
    by_cases hlt : k < n1
    · obtain ⟨ad, e, hc⟩ := HA.out (by omega)
      subst e
      have x0 := hc k hlt
      have x1 : wr.cell? (ad.add k) = some (.string (tx k)) := by rw [HBB1.out.cell (World.block_lt_of_cell? _ _ x0)]; exact x0
      have ht := HX.out k hlt
      have HN := Lib.hid (st1_next (tx := tx) (k := k) (by omega))
      clear hc x0
      go_wp2_with fail
      refine (fill_is _ ht _).mono ?_
      rintro e _ ⟨rfl, rfl⟩
      go_wp2_with fail
      refine (dwrite_is HD.out HBB1.out.size (by simp [st1, firstC_len]; omega) (by simp [st1]; omega) _ _).mono ?_
      rintro e w5 ⟨rfl, hd5, ho5⟩
      rw [HN.out.1] at hd5
      rw [HN.out.2]
      have HD5 := Lib.hid hd5
      have HB5 := Lib.hid (HBB1.out.trans (ho5.below HBB1.out.size))
      clear hd5 ho5 HD HBB1 x1
      go_wp2_with fail
      go_roundw
      case rel => exact ⟨k + 1, by omega, by go_num, HD5.out, HB5.out⟩
      case measure => simp [intOf]; omega
    · obtain rfl : k = n1 := by omega
      go_wp2_with fail
      refine (dflush_is HD.out (by simp [st1, firstC_len]; omega)).mono ?_
      rintro e w5 ⟨rfl, hd5, ho5⟩
      rw [st2_start (ty := ty)] at hd5
      have HD5 := Lib.hid hd5
      have HB5 := Lib.hid (HBB1.out.trans (ho5.below HBB1.out.size))
      clear hd5 ho5 HD HBB1
      go_wp2_with fail
      go_loopw [53] (fun j wr => ∃ m : Nat, m ≤ n2 ∧ j = .int .i64 m ∧ DiskAt wr w.heap.size D (st2 tx ty k m) ∧ Below w.heap.size w wr) (fun j _ => n2 - (intOf j).toNat)
      case atStart => exact ⟨0, Nat.zero_le _, rfl, HD5.out, HB5.out⟩
      case round =>
        clear HD5 HB5
        obtain ⟨m, hm, rfl, hD, hB⟩ := hrel
        have HD := Lib.hid hD
        have HBB1 := Lib.hid hB
        clear hD hB
        by_cases hlt2 : m < n2
        · obtain ⟨ad, e, hc⟩ := HB.out (by omega)
          subst e
          have x0 := hc m hlt2
          have x1 := (HBB1.out.cell (World.block_lt_of_cell? _ _ x0)).trans x0
          have ht := HY.out m hlt2
          have HN := Lib.hid (st2_next (tx := tx) (ty := ty) (n1 := k) (k := m) (by omega))
          clear hc x0
          go_wp2_with fail
          refine (fill_is _ ht _).mono ?_
          rintro e _ ⟨rfl, rfl⟩
          go_wp2_with fail
          refine (dwrite_is HD.out HBB1.out.size (by simp [st2, secondC_len]; omega) (by simp [st2]; omega) _ _).mono ?_
          rintro e w5 ⟨rfl, hd5, ho5⟩
          rw [HN.out.1] at hd5
          rw [HN.out.2]
          have HD5 := Lib.hid hd5
          have HB5 := Lib.hid (HBB1.out.trans (ho5.below HBB1.out.size))
          clear hd5 ho5 HD HBB1 x1
          go_wp2_with fail
          go_roundw
          case rel => exact ⟨m + 1, by omega, by go_num, HD5.out, HB5.out⟩
          case measure => simp [intOf]; omega
        · obtain rfl : m = n2 := by omega
          go_wp2_with fail
          refine (dcrash_is HD.out b HBB.out.1 (by have := HBB.out.2; omega) (by simp [st2, secondC_len]; omega)).mono ?_
          rintro e w5 ⟨rfl, hd5, ho5⟩
          have HD5 := Lib.hid hd5
          have HB5 := Lib.hid (HBB1.out.trans (ho5.below HBB1.out.size))
          clear hd5 ho5 HD HBB1
          go_wp2_with fail
          go_loopw [68] (fun j wr => ∃ i : Nat, i ≤ 30 ∧ j = .int .i64 i ∧ DiskAt wr w.heap.size D (crashS (st2 tx ty k m) b) ∧ Below w.heap.size w wr) (fun j _ => 30 - (intOf j).toNat)
          case atStart => exact ⟨0, Nat.zero_le _, rfl, HD5.out, HB5.out⟩
          case round =>
            clear HD5 HB5
            obtain ⟨i, hi, rfl, hD, hB⟩ := hrel
            have HD := Lib.hid hD
            have HBB1 := Lib.hid hB
            clear hD hB
            by_cases hlt3 : i < 30
            · have HK := Lib.hid (crash_at (tx := tx) (ty := ty) (n1 := k) (n2 := m) (b := b) (by omega) (by omega) hlt3)
              obtain ⟨q, hqn⟩ : ∃ q : Nat, q = 29 - i := ⟨_, rfl⟩
              have hq : (29 : Int) - i = q := by omega
              rw [← hqn] at HK
              obtain ⟨fk, hfk⟩ : ∃ fk, fk = fateF b q := ⟨_, rfl⟩
              have fr := fateV_range b q
              have HFV := Lib.hid (show fateV b q = (fk : Int) by rw [hfk]; unfold fateF; omega)
              have hfl : fk ≤ 64 := by rw [hfk]; exact fateF_le b q
              have HFK := Lib.hid hfk.symm
              generalize crashS (st2 tx ty k m) b = sc at HD HK
              have hz1 : ∀ W : World, (Instr.makeSlice 52 (.int .i64 64) (.int .i64 64)).run Try.prog W = .ok (.slice (some ⟨W.heap.size, 0, none⟩) 64 64) (W.alloc (.cells (madeCells #[.int .u8 0] 64) 5)) := fun W => run_zero 64 (Nat.le_refl _) W
              have hz2 := conv_zero 64 wr
              have HB2 := Lib.hid (HBB1.out.alloc HBB1.out.size (.cells (madeCells #[.int .u8 0] 64) 5))
              have HD2 := Lib.hid (diskAt_frame HD.out (OnlyT.of_below ((Below.refl wr.heap.size wr).alloc (Nat.le_refl _) (.cells (madeCells #[.int .u8 0] 64) 5))))
              clear fr hfk HD HBB1 hqn
              by_cases h3 : i < k
              · by_cases h4 : q < m
                · obtain ⟨ad, e, hc⟩ := HA.out (by omega)
                  subst e
                  have x0 := hc i h3
                  have x1 : (wr.alloc (.cells (madeCells #[.int .u8 0] 64) 5)).cell? (ad.add i) = some (.string (tx i)) := (HB2.out.cell (World.block_lt_of_cell? _ _ x0)).trans x0
                  have ht := HX.out i h3
                  have HW := Lib.hid (show base1 tx k i = fillB (tx i) by unfold base1; rw [if_pos h3])
                  clear hc x0
                  obtain ⟨ad2, e2, hc2⟩ := HB.out (by omega)
                  subst e2
                  have z0 := hc2 q h4
                  have z1 : (wr.alloc (.cells (madeCells #[.int .u8 0] 64) 5)).cell? (ad2.add q) = some (.string (ty q)) := (HB2.out.cell (World.block_lt_of_cell? _ _ z0)).trans z0
                  have ht2 := HY.out q h4
                  clear hc2 z0
                  have HK2 := Lib.hid (show keptV sc i = (fillB (ty q)).extract 0 fk ++ (base1 tx k i).extract fk 64 by rw [HK.out, if_pos (by omega), HFK.out]; rfl)
                  have hsz := base1_size (tx := tx) (n1 := k) i
                  have hfz := fillB_size (ty q)
                  rw [HW.out] at HK2 hsz
                  clear HK HW
                  go_wp2_with fail
                  refine (fill_is _ ht _).mono ?_
                  rintro e _ ⟨rfl, rfl⟩
                  generalize fillB (tx i) = want at HK2 hsz ⊢
                  go_wp2_with fail
                  refine (reffate_is b q HBB.out.1 (by have := HBB.out.2; omega) (by omega) _).mono ?_
                  rintro e _ ⟨rfl, rfl⟩
                  rw [HFV.out]
                  go_wp2_with fail
                  have HKK := Lib.hid (show HoldS (wr.alloc (.cells (madeCells #[.int .u8 0] 64) 5)) [(ad2.add q, .string (ty q))] (fun _ => True) (wr.alloc (.cells (madeCells #[.int .u8 0] 64) 5)).drew from ⟨cc z1 cn, trivial, (Below.refl _ _).drew⟩)
                  refine wp_region_kept _ (by kernel_rfl) (by kernel_rfl) HKK.out ?_
                  intro hne
                  have f0 : ∀ x : HeldW (HoldS (wr.alloc (.cells (madeCells #[.int .u8 0] 64) 5)) [(ad2.add q, .string (ty q))] (fun _ => True)), x.w.cell? (ad2.add q) = some (.string (ty q)) := fun x => x.at_ 0 rfl
                  repeat (go_big_quiet_step (first | (go_at_call 12; refine kept_same (fill_is _ ht2 _))))
                  refine wpQuiet_nil ?_
                  rintro w9 ⟨⟨_, hq9⟩, rfl⟩
                  obtain ⟨_, _, hb9⟩ := hq9
                  have HD9 := Lib.hid (diskAt_frame HD2.out (OnlyT.of_below hb9))
                  have HB9 := Lib.hid (HB2.out.trans (hb9.mono HB2.out.size))
                  clear f0 hne HKK hb9 z1 HD2 HB2
                  go_wp2_with fail
                  refine (dkept_is HD9.out i).mono ?_
                  rintro e _ ⟨rfl, rfl⟩
                  rw [HK2.out]
                  clear HK2
                  generalize (fillB (ty q)).extract 0 fk ++ want.extract fk 64 = wv
                  have b3 : (wv.toList == wv.toList) = true := by simp
                  go_wp2_with fail
                  go_roundw
                  case rel => exact ⟨i + 1, by omega, by go_num, HD9.out, HB9.out⟩
                  case measure => simp [intOf]; omega
                · obtain ⟨ad, e, hc⟩ := HA.out (by omega)
                  subst e
                  have x0 := hc i h3
                  have x1 : (wr.alloc (.cells (madeCells #[.int .u8 0] 64) 5)).cell? (ad.add i) = some (.string (tx i)) := (HB2.out.cell (World.block_lt_of_cell? _ _ x0)).trans x0
                  have ht := HX.out i h3
                  have HW := Lib.hid (show base1 tx k i = fillB (tx i) by unfold base1; rw [if_pos h3])
                  clear hc x0
                  have HK2 := Lib.hid (show keptV sc i = base1 tx k i by rw [HK.out, if_neg (by omega)])
                  rw [HW.out] at HK2
                  clear HK HW
                  go_wp2_with fail
                  refine (fill_is _ ht _).mono ?_
                  rintro e _ ⟨rfl, rfl⟩
                  generalize fillB (tx i) = want at *
                  go_wp2_with fail
                  go_wp2_with fail
                  refine (dkept_is HD2.out i).mono ?_
                  rintro e _ ⟨rfl, rfl⟩
                  rw [HK2.out]
                  clear HK2
                  generalize want = wv
                  have b3 : (wv.toList == wv.toList) = true := by simp
                  go_wp2_with fail
                  go_roundw
                  case rel => exact ⟨i + 1, by omega, by go_num, HD2.out, HB2.out⟩
                  case measure => simp [intOf]; omega
              · by_cases h4 : q < m
                · have HW := Lib.hid (show base1 tx k i = zeroB 64 by unfold base1; rw [if_neg h3])
                  obtain ⟨ad2, e2, hc2⟩ := HB.out (by omega)
                  subst e2
                  have z0 := hc2 q h4
                  have z1 : (wr.alloc (.cells (madeCells #[.int .u8 0] 64) 5)).cell? (ad2.add q) = some (.string (ty q)) := (HB2.out.cell (World.block_lt_of_cell? _ _ z0)).trans z0
                  have ht2 := HY.out q h4
                  clear hc2 z0
                  have HK2 := Lib.hid (show keptV sc i = (fillB (ty q)).extract 0 fk ++ (base1 tx k i).extract fk 64 by rw [HK.out, if_pos (by omega), HFK.out]; rfl)
                  have hsz := base1_size (tx := tx) (n1 := k) i
                  have hfz := fillB_size (ty q)
                  rw [HW.out] at HK2 hsz
                  clear HK HW
                  go_wp2_with fail
                  generalize zeroB 64 = want at HK2 hsz ⊢
                  go_wp2_with fail
                  refine (reffate_is b q HBB.out.1 (by have := HBB.out.2; omega) (by omega) _).mono ?_
                  rintro e _ ⟨rfl, rfl⟩
                  rw [HFV.out]
                  go_wp2_with fail
                  have HKK := Lib.hid (show HoldS (wr.alloc (.cells (madeCells #[.int .u8 0] 64) 5)) [(ad2.add q, .string (ty q))] (fun _ => True) (wr.alloc (.cells (madeCells #[.int .u8 0] 64) 5)).drew from ⟨cc z1 cn, trivial, (Below.refl _ _).drew⟩)
                  refine wp_region_kept _ (by kernel_rfl) (by kernel_rfl) HKK.out ?_
                  intro hne
                  have f0 : ∀ x : HeldW (HoldS (wr.alloc (.cells (madeCells #[.int .u8 0] 64) 5)) [(ad2.add q, .string (ty q))] (fun _ => True)), x.w.cell? (ad2.add q) = some (.string (ty q)) := fun x => x.at_ 0 rfl
                  repeat (go_big_quiet_step (first | (go_at_call 12; refine kept_same (fill_is _ ht2 _))))
                  refine wpQuiet_nil ?_
                  rintro w9 ⟨⟨_, hq9⟩, rfl⟩
                  obtain ⟨_, _, hb9⟩ := hq9
                  have HD9 := Lib.hid (diskAt_frame HD2.out (OnlyT.of_below hb9))
                  have HB9 := Lib.hid (HB2.out.trans (hb9.mono HB2.out.size))
                  clear f0 hne HKK hb9 z1 HD2 HB2
                  go_wp2_with fail
                  refine (dkept_is HD9.out i).mono ?_
                  rintro e _ ⟨rfl, rfl⟩
                  rw [HK2.out]
                  clear HK2
                  generalize (fillB (ty q)).extract 0 fk ++ want.extract fk 64 = wv
                  have b3 : (wv.toList == wv.toList) = true := by simp
                  go_wp2_with fail
                  go_roundw
                  case rel => exact ⟨i + 1, by omega, by go_num, HD9.out, HB9.out⟩
                  case measure => simp [intOf]; omega
                · have HW := Lib.hid (show base1 tx k i = zeroB 64 by unfold base1; rw [if_neg h3])
                  have HK2 := Lib.hid (show keptV sc i = base1 tx k i by rw [HK.out, if_neg (by omega)])
                  rw [HW.out] at HK2
                  clear HK HW
                  go_wp2_with fail
                  generalize zeroB 64 = want at *
                  go_wp2_with fail
                  go_wp2_with fail
                  refine (dkept_is HD2.out i).mono ?_
                  rintro e _ ⟨rfl, rfl⟩
                  rw [HK2.out]
                  clear HK2
                  generalize want = wv
                  have b3 : (wv.toList == wv.toList) = true := by simp
                  go_wp2_with fail
                  go_roundw
                  case rel => exact ⟨i + 1, by omega, by go_num, HD2.out, HB2.out⟩
                  case measure => simp [intOf]; omega
            · obtain rfl : i = 30 := by omega
              have hoff : (crashS (st2 tx ty k m) b).off = true := rfl
              have HFO := Lib.hid (dflush_off HD.out hoff)
              go_wp2_with fail
              refine (ddown_is HD.out).mono ?_
              rintro e _ ⟨rfl, rfl⟩
              rw [hoff]
              clear hoff
              go_wp2_with fail
              refine HFO.out.mono ?_
              rintro e w9 ⟨rfl, hd9, ho9⟩
              have HB9 := Lib.hid (HBB1.out.trans (ho9.below HBB1.out.size))
              clear hd9 ho9 HD HBB1 HFO
              go_wp2_with fail
              go_ret
              exact ⟨rfl, HB9.out⟩

theorem flushed_walk (b : Int) (hb : 0 ≤ b ∧ b ≤ 18446744073709551615) (hA : StrsAt w A n1 tx) (hx : ∀ i, i < n1 → (tx i).size ≤ maxLen) (hB : StrsAt w B n2 ty) (hy : ∀ i, i < n2 → (ty i).size ≤ maxLen) :
    Calls Try.prog 4 #[.slice A n1 c1, .slice B n2 c2, .int .u64 b] w fun e w' => e = .returned (.bool true) ∧ Below w.heap.size w w' := by
  by_cases h1 : 30 < n1
  · exact flushed_long b (.inl h1)
  by_cases h2 : 30 < n2
  · exact flushed_long b (.inr h2)
  exact flushed_good b hb hA hB h1 h2 hx hy
end
end Go.Proofs.Ytabjpmofakdacaa
