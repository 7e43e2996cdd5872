/-
  The law DiskPlays, walked, over a disk that keeps the bundle of contracts. No conditions but how the arguments lie in memory.
-/
import Derived.Test.YtabjpmofakdacaaDiskG
import Derived.Deep.RegionHeld3
import Derived.Deep.DeepCutAuto
import Derived.Outline
namespace Go.Proofs.Ytabjpmofakdacaa
open Go.RowKit

/-- n calls stand at A. -/
def OpsAt (w : World) (A : Option Addr) (n : Nat) (kd pl : Nat → Int) (tx : Nat → ByteArray) (rw_ : Nat → Bool) (ca cb : Nat → Int) : Prop :=
  0 < n → ∃ ad, A = some ad ∧ ∀ i, i < n → w.cell? (ad.add (i * 6)) = some (.int .i64 (kd i)) ∧ w.cell? ⟨(ad.add (i * 6)).block, (ad.add (i * 6)).off + 1, none⟩ = some (.int .i64 (pl i)) ∧ w.cell? ⟨(ad.add (i * 6)).block, (ad.add (i * 6)).off + 1 + 1, none⟩ = some (.string (tx i)) ∧
    w.cell? ⟨(ad.add (i * 6)).block, (ad.add (i * 6)).off + 1 + 1 + 1, none⟩ = some (.bool (rw_ i)) ∧ w.cell? ⟨(ad.add (i * 6)).block, (ad.add (i * 6)).off + 1 + 1 + 1 + 1, none⟩ = some (.int .i64 (ca i)) ∧ w.cell? ⟨(ad.add (i * 6)).block, (ad.add (i * 6)).off + 1 + 1 + 1 + 1 + 1, none⟩ = some (.int .u64 (cb i))
theorem OpsAt.later {w w' : World} {A : Option Addr} {n : Nat} {kd pl : Nat → Int} {tx : Nat → ByteArray} {rw_ : Nat → Bool} {ca cb : Nat → Int} (h : OpsAt w A n kd pl tx rw_ ca cb) (hb : Below w.heap.size w w') : OpsAt w' A n kd pl tx rw_ ca cb := fun hn => by
  obtain ⟨ad, e, hc⟩ := h hn
  refine ⟨ad, e, fun i hi => ?_⟩
  obtain ⟨h0, h1, h2, h3, h4, h5⟩ := hc i hi
  exact ⟨cell_later hb h0, cell_later hb h1, cell_later hb h2, cell_later hb h3, cell_later hb h4, cell_later hb h5⟩

section
variable {DiskAt : World → Nat → Nat → Dk → Prop} {T : TypeId → Bool} {A : Option Addr} {n c : Nat} {kd pl : Nat → Int} {tx : Nat → ByteArray} {rw_ : Nat → Bool} {ca cb : Nat → Int} {w : World}

/-- What is held: both disks have one state. -/
def PlayS (DiskAt : World → Nat → Nat → Dk → Prop) (w : World) (D R N k : Nat) (st : Dk) (W : World) : Prop :=
  DiskAt W w.heap.size D st ∧ RefAt W w.heap.size R st ∧ st.kept.length = N ∧ st.cache.length ≤ k ∧ st.writes ≤ k ∧ Below w.heap.size w W

theorem PlayS.below {D R N k : Nat} {st : Dk} {W W' : World} (C : DiskC DiskAt T) (h : PlayS DiskAt w D R N k st W) (hb : Below W.heap.size W W') : PlayS DiskAt w D R N k st W' :=
  let ⟨a, b, c, d, e, f⟩ := h
  ⟨C.frame a (OnlyT.of_below hb), b.later hb, c, d, e, f.trans (hb.mono f.size)⟩

theorem PlayS.drew {D R N k : Nat} {st : Dk} {W : World} (C : DiskC DiskAt T) (h : PlayS DiskAt w D R N k st W) : PlayS DiskAt w D R N k st W.drew := h.below C (Below.refl _ _).drew
theorem len_is {D R N k : Nat} {st : Dk} {W : World} (C : DiskC DiskAt T) (h : PlayS DiskAt w D R N k st W) : Calls Try.prog 27 #[.pointer (some ⟨D, 0, none⟩)] W fun e w' => e = .returned (.int .i64 N) ∧ Below W.heap.size W w' := by
  have := C.len h.1
  rw [h.2.2.1] at this
  exact this

/-- One call more: as many sectors, at most one write more. -/
structure Step (st st' : Dk) : Prop where
  kept : st'.kept.length = st.kept.length
  cache : st'.cache.length ≤ st.cache.length + 1
  writes : st'.writes ≤ st.writes + 1
theorem step_crash (st : Dk) (b : Int) : Step st (crashS st b) := by
  unfold crashS
  split
  · exact ⟨rfl, by omega, by omega⟩
  · exact ⟨keptTo_len _ _ _ _, by simp, by simp; omega⟩
theorem step_flush (st : Dk) : Step st (flushS st) := by
  unfold flushS
  split
  · exact ⟨rfl, by omega, by omega⟩
  · exact ⟨keptTo_len _ _ _ _, by simp, by simp; omega⟩
theorem step_write (st : Dk) (a : Int) (s : ByteArray) : Step st (writeS st a s) := by
  unfold writeS
  split
  · exact ⟨rfl, by omega, by omega⟩
  split
  · exact ⟨rfl, by omega, by omega⟩
  split
  · exact ⟨rfl, by omega, by omega⟩
  split
  · unfold crashS
    split
    · exact ⟨rfl, by simp [putS], by simp [putS]⟩
    · exact ⟨by simp [keptTo_len, putS], by simp, by simp [putS]⟩
  · exact ⟨rfl, by simp [putS], by simp [putS]⟩
theorem step_same (st : Dk) : Step st st := ⟨rfl, by omega, by omega⟩
theorem step_arm (st : Dk) (a b : Int) : Step st (armS st a b) := ⟨rfl, by simp [armS], by simp [armS]; omega⟩
theorem step_start (st : Dk) : Step st (startS st) := ⟨rfl, by simp [startS], by simp [startS]; omega⟩

/-- Both disks have gone on alike. -/
theorem PlayS.step {D R N k : Nat} {st st' : Dk} {W W' : World} {T' : TypeId → Bool} (h : PlayS DiskAt w D R N k st W) (hs : Step st st') (hd : DiskAt W' w.heap.size D st') (hr : RefAt W' w.heap.size R st') (ho : OnlyT w.heap.size T' W W') : PlayS DiskAt w D R N (k + 1) st' W' := by
  obtain ⟨a, b, c, d, e, f⟩ := h
  refine ⟨hd, hr, by rw [hs.kept]; exact c, by have := hs.cache; omega, by have := hs.writes; omega, ?_⟩
  exact f.trans (ho.below f.size)
theorem OnlyT.or {base : Nat} {T1 T2 : TypeId → Bool} {a b c : World} (h : OnlyT base T1 a b) (k : OnlyT base T2 b c) : OnlyT base (fun t => T1 t || T2 t) a c :=
  ⟨k.os.trans h.os, k.tape.trans h.tape, k.output.trans h.output, Nat.le_trans h.size k.size, fun i o ho hc => by
    refine k.block i o (h.block i o ho (hc.imp id fun q cs t m e => ?_)) (hc.imp id fun q cs t m e => ?_)
    · have := q cs t m e; simp at this; exact this.1
    · have := q cs t m e; simp at this; exact this.2⟩
theorem heap_frame {base g : Nat} {T' : TypeId → Bool} {a b : World} {cs : Array Value} {t : TypeId} {mm : Nat × Nat} (ho : OnlyT base T' a b) (h : a.heap[g]? = some (.cells cs t mm)) (hT : T' t = false) : b.heap[g]? = some (.cells cs t mm) :=
  ho.block g _ h (.inr fun cs' t' m' e => by injection e with _ e; rw [← e]; exact hT)
theorem cell_heap {a : World} {g i : Nat} {cs : Array Value} {t : TypeId} {mm : Nat × Nat} (h : a.heap[g]? = some (.cells cs t mm)) : a.cell? ⟨g, i, none⟩ = cs[i]? := by simp [World.cell?, h]

set_option maxHeartbeats 2000000 in
set_option maxRecDepth 100000 in
theorem plays_good (C : DiskC DiskAt T) (aw : ∀ w : World, Calls Try.prog 9 #[] w fun e w' => e = .returned (.bool true) ∧ Below w.heap.size w w')
    (hA : OpsAt w A n kd pl tx rw_ ca cb) (hn : n ≤ 200) (N : Nat) (h1 : 1 ≤ N) (h2 : N ≤ 200) (hcb : ∀ i, i < n → 0 ≤ cb i ∧ cb i < 18446744073709551616) (hca : ∀ i, i < n → ca i ≤ 9223372036854775807) (htx : ∀ i, i < n → (tx i).size ≤ maxLen) :
    Calls Try.prog 3 #[.int .i64 N, .slice A n c] w fun e w' => e = .returned (.bool true) ∧ Below w.heap.size w w' := by
  have HC := Lib.hid C
  have AW := Lib.hid aw
  have HA := Lib.hid hA
  have HCB := Lib.hid hcb
  have HCA := Lib.hid hca
  have HTX := Lib.hid htx
  have n200 : ¬ 200 < n := by omega
  have N200 : ¬ (200 : Int) < (N : Int) := by omega
  have N1 : ¬ (N : Int) < 1 := by omega
  clear C aw hA hcb hca htx
  go_enter Try.func3, Try.ntmps3
  go_wp2_with fail
  refine (AW.out _).mono ?_
  rintro e w1 ⟨rfl, hb1⟩
  go_wp2_with fail
  refine (HC.out.new_yes N _ h1 (by omega)).mono ?_
  rintro e w2 ⟨D, rfl, hd2, hb2⟩
  have hB2 : Below w.heap.size w w2 := hb1.trans (hb2.mono hb1.size)
  have HD := Lib.hid (HC.out.mono hd2 hb1.size)
  clear hd2 hb2 hb1
  go_wp2_with fail
  refine (refnewd_is N (by omega) _).mono ?_
  rintro e w3 ⟨R, rfl, hr3, hb3⟩
  have HP := (show PlayS DiskAt w D R N 0 (newS N) w3 from ⟨HC.out.frame HD.out (OnlyT.of_below hb3), hr3.mono hB2.size, by simp [newS], by simp [newS], by simp [newS], hB2.trans (hb3.mono hB2.size)⟩)
  clear hr3 hb3 hB2 HD
  go_wp2_with fail
  go_loopw [46] (fun i wr => ∃ (k : Nat) (st : Dk), k ≤ n ∧ i = .int .i64 k ∧ PlayS DiskAt w D R N k st wr) (fun i _ => n - (intOf i).toNat)
  case atStart => exact ⟨0, newS N, Nat.zero_le _, rfl, HP⟩
  case round =>
    clear HP
    obtain ⟨k, st, hk, rfl, hP⟩ := hrel
    have HP := Lib.hid hP
    clear hP
    by_cases hlt : k < n
    · obtain ⟨ad, e, hcell⟩ := (HA.out) (by omega)
      subst e
      obtain ⟨x0, x1, x2, x3, x4, x5⟩ := hcell k hlt
      have hBw := HP.out.2.2.2.2.2
      have hold : ∀ {a : Addr} {v : Value}, w.cell? a = some v → wr.cell? a = some v := fun h => by rw [hBw.cell (World.block_lt_of_cell? _ _ h)]; exact h
      replace x0 := hold x0
      replace x1 := hold x1
      replace x2 := hold x2
      replace x3 := hold x3
      replace x4 := hold x4
      replace x5 := hold x5
      clear hold hBw hcell
      have ht := HTX.out k hlt
      have hcb := HCB.out k hlt
      have hca := HCA.out k hlt
      generalize kd k = kdk at x0
      generalize pl k = plk at x1
      generalize tx k = txk at x2 ht
      generalize rw_ k = rwk at x3
      generalize ca k = cak at x4 hca
      generalize cb k = cbk at x5 hcb
      obtain ⟨hcb0, hcb1⟩ := hcb
      by_cases hlen : 200 < txk.size
      · go_wp2_with fail
        go_ret
        exact ⟨rfl, (HP.out.2.2.2.2.2).alloc HP.out.2.2.2.2.2.size _⟩
      · obtain ⟨sk, hsk⟩ : ∃ sk, sk = if rwk = true then txk else fillB txk := ⟨_, rfl⟩
        have hsz : sk.size ≤ maxLen := by rw [hsk]; split; exact ht; rw [fillB_size]; unfold maxLen; omega
        have HSK := Lib.hid hsk
        have HSZ := Lib.hid hsz
        have HT := Lib.hid ht
        clear hsk hsz ht
        go_upto_if 58 with (fail)
        go_cut [10] (fun t wx => t = .string sk ∧ wx = wr.alloc (.cells #[.int .i64 kdk, .int .i64 plk, .string txk, .bool rwk, .int .i64 cak, .int .u64 cbk] 34))
        case first =>
          cases hr : rwk
          · have hs2 := Lib.hid (show sk = fillB txk by rw [HSK.out, hr]; rfl)
            go_wp2_with (go_at_call 12; refine (fill_is _ HT.out _).mono ?_; rintro e wf ⟨rfl, rfl⟩)
            go_meet
            exact ⟨by rw [hs2.out], by rw [hr]⟩
          · have hs2 := Lib.hid (show sk = txk by rw [HSK.out, hr]; rfl)
            go_wp2_with fail
            go_meet
            exact ⟨by rw [hs2.out], by rw [hr]⟩
        case rest =>
        obtain ⟨rfl, hwc⟩ := hcut
        have hP1 := HP.out.below HC.out (((Below.refl _ _).alloc (Nat.le_refl _) (.cells #[.int .i64 kdk, .int .i64 plk, .string txk, .bool rwk, .int .i64 cak, .int .u64 cbk] 34)))
        have hO1 : (wr.alloc (.cells #[.int .i64 kdk, .int .i64 plk, .string txk, .bool rwk, .int .i64 cak, .int .u64 cbk] 34)).heap[wr.heap.size]? = some (.cells #[.int .i64 kdk, .int .i64 plk, .string txk, .bool rwk, .int .i64 cak, .int .u64 cbk] 34 (0, 0)) := heap_alloc_new wr _
        rw [← hwc] at hP1 hO1
        have HP1 := Lib.hid hP1
        have HO1 := Lib.hid hO1
        have y0 := cell_heap (i := 0) hO1
        have y1 := cell_heap (i := 1) hO1
        have y4 := cell_heap (i := 4) hO1
        have y5 := cell_heap (i := 5) hO1
        simp at y0 y1 y4 y5
        clear hP1 hO1 hwc x0 x1 x2 x3 x4 x5
        have hk1 : st.cache.length < 1000000 := by have := HP1.out.2.2.2.1; omega
        have hk2 : st.writes ≤ 1000000 := by have := HP1.out.2.2.2.2.1; omega
        by_cases k2 : kdk = 2
        · subst k2
          go_wp2_with fail
          refine (HC.out.flush HP1.out.1 HP1.out.2.2.2.2.2.size (by omega)).mono ?_
          rintro e w4 ⟨rfl, hd4, ho4⟩
          have hr4 := HP1.out.2.1.frame ho4 HC.out.apart
          go_wp2_with fail
          refine (refflush_is hr4 (by omega)).mono ?_
          rintro e w5 ⟨rfl, hr5, ho5⟩
          have HP5 := Lib.hid (HP1.out.step (step_flush st) (HC.out.frame hd4 ho5) hr5 (ho4.or ho5))
          clear hd4 ho4 hr4 hr5 ho5 y0 y1 y4 y5
          obtain ⟨stn, hstn⟩ : ∃ stn, stn = flushS st := ⟨_, rfl⟩
          have HP6 := HP5.out
          rw [← hstn] at HP6
          replace HP6 := Lib.hid HP6
          clear HP5 hstn
          have HK := Lib.hid (show (HoldS w5 [(⟨R, 2, none⟩, .bool stn.off), (⟨R, 5, none⟩, .int .i64 stn.writes)] (PlayS DiskAt w D R N (k + 1) stn)) (w5).drew from ⟨(cc HP6.out.2.1.off_at (cc HP6.out.2.1.writes_at cn)), (HP6.out.drew HC.out), (Below.refl _ _).drew⟩)
          go_wp2_with fail
          refine wp_region_kept _ (by kernel_rfl) (by kernel_rfl) HK.out ?_
          intro hne
          have f0 : ∀ x : HeldW (HoldS w5 [(⟨R, 2, none⟩, .bool stn.off), (⟨R, 5, none⟩, .int .i64 stn.writes)] (PlayS DiskAt w D R N (k + 1) stn)), x.w.cell? ⟨R, 2, none⟩ = some (.bool stn.off) := fun x => x.at_ 0 rfl
          have f1 : ∀ x : HeldW (HoldS w5 [(⟨R, 2, none⟩, .bool stn.off), (⟨R, 5, none⟩, .int .i64 stn.writes)] (PlayS DiskAt w D R N (k + 1) stn)), x.w.cell? ⟨R, 5, none⟩ = some (.int .i64 stn.writes) := fun x => x.at_ 1 rfl
          repeat (go_big_quiet_step (first | (go_at_call 25; rename_i xx; refine kept_of (HoldS.keep (fun _ _ h hb => h.below HC.out hb)) (HC.out.down xx.ok.2.1.1)) | (go_at_call 26; rename_i xx; refine kept_of (HoldS.keep (fun _ _ h hb => h.below HC.out hb)) (HC.out.writes xx.ok.2.1.1)) | (go_at_call 27; rename_i xx; refine kept_of (HoldS.keep (fun _ _ h hb => h.below HC.out hb)) (len_is HC.out xx.ok.2.1))))
          refine wpQuiet_nil ?_
          rintro w9 ⟨⟨_, hq⟩, rfl⟩
          obtain ⟨hcs, h9, hb9⟩ := hq
          clear f0 f1 hne hcs
          clear hb9
          go_wp2_with fail
          go_roundw
          case rel => exact ⟨k + 1, stn, by omega, by go_num, h9⟩
          case measure => simp [intOf]; omega
        · have b2 : (kdk == 2) = false := by simpa using k2
          by_cases k3 : kdk = 3
          · subst k3
            go_wp2_with fail
            refine (HC.out.read HP1.out.1 HP1.out.2.2.2.2.2.size (by omega) _).mono ?_
            rintro e w4 ⟨rfl, hd4, ho4⟩
            have hr4 := HP1.out.2.1.frame ho4 HC.out.apart
            have z1 := cell_heap (i := 1) (heap_frame ho4 HO1.out HC.out.apart2)
            simp at z1
            have HP4 := Lib.hid (show PlayS DiskAt w D R N (k + 1) st w4 from HP1.out.step (step_same st) hd4 hr4 ho4)
            clear hd4 ho4 hr4 y0 y1 y4 y5
            have b3 : ((readS st plk).toList == (readS st plk).toList) = true := by simp
            go_wp2_with fail
            refine (refread_is HP4.out.2.1 _ (by omega)).mono ?_
            rintro e w5 ⟨rfl, rfl⟩
            have HP5 := Lib.hid HP4.out
            clear HP4 z1
            generalize readS st plk = rs at b3
            generalize readE st plk = re
            obtain ⟨stn, hstn⟩ : ∃ stn, stn = st := ⟨_, rfl⟩
            have HP6 := HP5.out
            rw [← hstn] at HP6
            replace HP6 := Lib.hid HP6
            clear HP5 hstn
            have HK := Lib.hid (show (HoldS w4 [(⟨R, 2, none⟩, .bool stn.off), (⟨R, 5, none⟩, .int .i64 stn.writes)] (PlayS DiskAt w D R N (k + 1) stn)) (w4).drew from ⟨(cc HP6.out.2.1.off_at (cc HP6.out.2.1.writes_at cn)), (HP6.out.drew HC.out), (Below.refl _ _).drew⟩)
            go_wp2_with fail
            refine wp_region_kept _ (by kernel_rfl) (by kernel_rfl) HK.out ?_
            intro hne
            have f0 : ∀ x : HeldW (HoldS w4 [(⟨R, 2, none⟩, .bool stn.off), (⟨R, 5, none⟩, .int .i64 stn.writes)] (PlayS DiskAt w D R N (k + 1) stn)), x.w.cell? ⟨R, 2, none⟩ = some (.bool stn.off) := fun x => x.at_ 0 rfl
            have f1 : ∀ x : HeldW (HoldS w4 [(⟨R, 2, none⟩, .bool stn.off), (⟨R, 5, none⟩, .int .i64 stn.writes)] (PlayS DiskAt w D R N (k + 1) stn)), x.w.cell? ⟨R, 5, none⟩ = some (.int .i64 stn.writes) := fun x => x.at_ 1 rfl
            repeat (go_big_quiet_step (first | (go_at_call 25; rename_i xx; refine kept_of (HoldS.keep (fun _ _ h hb => h.below HC.out hb)) (HC.out.down xx.ok.2.1.1)) | (go_at_call 26; rename_i xx; refine kept_of (HoldS.keep (fun _ _ h hb => h.below HC.out hb)) (HC.out.writes xx.ok.2.1.1)) | (go_at_call 27; rename_i xx; refine kept_of (HoldS.keep (fun _ _ h hb => h.below HC.out hb)) (len_is HC.out xx.ok.2.1))))
            refine wpQuiet_nil ?_
            rintro w9 ⟨⟨_, hq⟩, rfl⟩
            obtain ⟨hcs, h9, hb9⟩ := hq
            clear f0 f1 hne hcs
            clear hb9
            go_wp2_with fail
            go_roundw
            case rel => exact ⟨k + 1, stn, by omega, by go_num, h9⟩
            case measure => simp [intOf]; omega
          · have b3 : (kdk == 3) = false := by simpa using k3
            by_cases k4 : kdk = 4
            · subst k4
              go_wp2_with fail
              refine (HC.out.arm HP1.out.1 HP1.out.2.2.2.2.2.size _ _ hca hcb0 hcb1).mono ?_
              rintro e w4 ⟨rfl, hd4, ho4⟩
              have hr4 := HP1.out.2.1.frame ho4 HC.out.apart
              have z4 := cell_heap (i := 4) (heap_frame ho4 HO1.out HC.out.apart2)
              have z5 := cell_heap (i := 5) (heap_frame ho4 HO1.out HC.out.apart2)
              simp at z4 z5
              clear y0 y1 y4 y5
              go_wp2_with fail
              refine (refarm_is hr4 _ _ hca hcb0 hcb1).mono ?_
              rintro e w5 ⟨rfl, hr5, ho5⟩
              have HP5 := Lib.hid (HP1.out.step (step_arm st cak cbk) (HC.out.frame hd4 ho5) hr5 (ho4.or ho5))
              clear hd4 ho4 hr4 hr5 ho5 z4 z5
              obtain ⟨stn, hstn⟩ : ∃ stn, stn = armS st cak cbk := ⟨_, rfl⟩
              have HP6 := HP5.out
              rw [← hstn] at HP6
              replace HP6 := Lib.hid HP6
              clear HP5 hstn
              have HK := Lib.hid (show (HoldS w5 [(⟨R, 2, none⟩, .bool stn.off), (⟨R, 5, none⟩, .int .i64 stn.writes)] (PlayS DiskAt w D R N (k + 1) stn)) (w5).drew from ⟨(cc HP6.out.2.1.off_at (cc HP6.out.2.1.writes_at cn)), (HP6.out.drew HC.out), (Below.refl _ _).drew⟩)
              go_wp2_with fail
              refine wp_region_kept _ (by kernel_rfl) (by kernel_rfl) HK.out ?_
              intro hne
              have f0 : ∀ x : HeldW (HoldS w5 [(⟨R, 2, none⟩, .bool stn.off), (⟨R, 5, none⟩, .int .i64 stn.writes)] (PlayS DiskAt w D R N (k + 1) stn)), x.w.cell? ⟨R, 2, none⟩ = some (.bool stn.off) := fun x => x.at_ 0 rfl
              have f1 : ∀ x : HeldW (HoldS w5 [(⟨R, 2, none⟩, .bool stn.off), (⟨R, 5, none⟩, .int .i64 stn.writes)] (PlayS DiskAt w D R N (k + 1) stn)), x.w.cell? ⟨R, 5, none⟩ = some (.int .i64 stn.writes) := fun x => x.at_ 1 rfl
              repeat (go_big_quiet_step (first | (go_at_call 25; rename_i xx; refine kept_of (HoldS.keep (fun _ _ h hb => h.below HC.out hb)) (HC.out.down xx.ok.2.1.1)) | (go_at_call 26; rename_i xx; refine kept_of (HoldS.keep (fun _ _ h hb => h.below HC.out hb)) (HC.out.writes xx.ok.2.1.1)) | (go_at_call 27; rename_i xx; refine kept_of (HoldS.keep (fun _ _ h hb => h.below HC.out hb)) (len_is HC.out xx.ok.2.1))))
              refine wpQuiet_nil ?_
              rintro w9 ⟨⟨_, hq⟩, rfl⟩
              obtain ⟨hcs, h9, hb9⟩ := hq
              clear f0 f1 hne hcs
              clear hb9
              go_wp2_with fail
              go_roundw
              case rel => exact ⟨k + 1, stn, by omega, by go_num, h9⟩
              case measure => simp [intOf]; omega
            · have b4 : (kdk == 4) = false := by simpa using k4
              by_cases k5 : kdk = 5
              · subst k5
                go_wp2_with fail
                refine (HC.out.crash HP1.out.1 HP1.out.2.2.2.2.2.size (by omega) _ hcb0 hcb1).mono ?_
                rintro e w4 ⟨rfl, hd4, ho4⟩
                have hr4 := HP1.out.2.1.frame ho4 HC.out.apart
                have z5 := cell_heap (i := 5) (heap_frame ho4 HO1.out HC.out.apart2)
                simp at z5
                clear y0 y1 y4 y5
                go_wp2_with fail
                refine (refcrash_is hr4 _ hcb0 hcb1 (by omega)).mono ?_
                rintro e w5 ⟨rfl, hr5, ho5⟩
                have HP5 := Lib.hid (HP1.out.step (step_crash st cbk) (HC.out.frame hd4 ho5) hr5 (ho4.or ho5))
                clear hd4 ho4 hr4 hr5 ho5 z5
                obtain ⟨stn, hstn⟩ : ∃ stn, stn = crashS st cbk := ⟨_, rfl⟩
                have HP6 := HP5.out
                rw [← hstn] at HP6
                replace HP6 := Lib.hid HP6
                clear HP5 hstn
                have HK := Lib.hid (show (HoldS w5 [(⟨R, 2, none⟩, .bool stn.off), (⟨R, 5, none⟩, .int .i64 stn.writes)] (PlayS DiskAt w D R N (k + 1) stn)) (w5).drew from ⟨(cc HP6.out.2.1.off_at (cc HP6.out.2.1.writes_at cn)), (HP6.out.drew HC.out), (Below.refl _ _).drew⟩)
                go_wp2_with fail
                refine wp_region_kept _ (by kernel_rfl) (by kernel_rfl) HK.out ?_
                intro hne
                have f0 : ∀ x : HeldW (HoldS w5 [(⟨R, 2, none⟩, .bool stn.off), (⟨R, 5, none⟩, .int .i64 stn.writes)] (PlayS DiskAt w D R N (k + 1) stn)), x.w.cell? ⟨R, 2, none⟩ = some (.bool stn.off) := fun x => x.at_ 0 rfl
                have f1 : ∀ x : HeldW (HoldS w5 [(⟨R, 2, none⟩, .bool stn.off), (⟨R, 5, none⟩, .int .i64 stn.writes)] (PlayS DiskAt w D R N (k + 1) stn)), x.w.cell? ⟨R, 5, none⟩ = some (.int .i64 stn.writes) := fun x => x.at_ 1 rfl
                repeat (go_big_quiet_step (first | (go_at_call 25; rename_i xx; refine kept_of (HoldS.keep (fun _ _ h hb => h.below HC.out hb)) (HC.out.down xx.ok.2.1.1)) | (go_at_call 26; rename_i xx; refine kept_of (HoldS.keep (fun _ _ h hb => h.below HC.out hb)) (HC.out.writes xx.ok.2.1.1)) | (go_at_call 27; rename_i xx; refine kept_of (HoldS.keep (fun _ _ h hb => h.below HC.out hb)) (len_is HC.out xx.ok.2.1))))
                refine wpQuiet_nil ?_
                rintro w9 ⟨⟨_, hq⟩, rfl⟩
                obtain ⟨hcs, h9, hb9⟩ := hq
                clear f0 f1 hne hcs
                clear hb9
                go_wp2_with fail
                go_roundw
                case rel => exact ⟨k + 1, stn, by omega, by go_num, h9⟩
                case measure => simp [intOf]; omega
              · have b5 : (kdk == 5) = false := by simpa using k5
                by_cases k1 : kdk = 1
                · subst k1
                  have hbs := HP1.out.2.2.2.2.2.size
                  have HD1 := Lib.hid (HC.out.frame HP1.out.1 (OnlyT.of_below (Below.refl _ _).drew))
                  have HR1 := Lib.hid (HP1.out.2.1.later (Below.refl _ _).drew)
                  go_wp2_with fail
                  go_region_held3 (fun W => W.cell? ⟨wr.heap.size, 1, none⟩ = some (.int .i64 plk) ∧ W.heap[wr.heap.size]? = some (.cells #[.int .i64 1, .int .i64 plk, .string txk, .bool rwk, .int .i64 cak, .int .u64 cbk] 34 (0, 0)))
                    (first | exact ⟨y1, HO1.out⟩ | exact ⟨z1, hh4.out⟩ | exact ⟨z2, hh5.out⟩)
                    (first
                      | (go_at_call 13; refine (HC.out.write HD1.out hbs hk1 hk2 _ _ HSZ.out).mono ?_; rintro e w4 ⟨rfl, hd4, ho4⟩; have hh4 := Lib.hid (heap_frame ho4 HO1.out HC.out.apart2); have z1 := cell_heap (i := 1) hh4.out; simp at z1; have HD4 := Lib.hid hd4; have HO4 := Lib.hid ho4; have HR4 := Lib.hid (HR1.out.frame ho4 HC.out.apart); clear hd4 ho4)
                      | (go_at_call 14; refine (refwrite_is HR4.out _ _ hk1 hk2 (Nat.le_trans hbs HO4.out.size)).mono ?_; rintro e w5 ⟨rfl, hr5, ho5⟩; have hh5 := Lib.hid (heap_frame ho5 hh4.out (by decide)); have z2 := cell_heap (i := 1) hh5.out; simp at z2; have HR5 := Lib.hid hr5; have HO5 := Lib.hid ho5; clear hr5 ho5))
                  have HP5 := Lib.hid (HP1.out.step (step_write st plk sk) (HC.out.frame HD4.out HO5.out) HR5.out (((OnlyT.of_below (Below.refl _ _).drew).trans HO4.out).or HO5.out))
                  clear HD1 HR1 HD4 HO4 HR4 HR5 HO5 hh4 hh5 z1 z2 y0 y1 y4 y5 hbs
                  generalize writeE st plk sk = we
                  go_wp2_with fail
                  obtain ⟨stn, hstn⟩ : ∃ stn, stn = writeS st plk sk := ⟨_, rfl⟩
                  have HP6 := HP5.out
                  rw [← hstn] at HP6
                  replace HP6 := Lib.hid HP6
                  clear HP5 hstn
                  have HK := Lib.hid (show (HoldS w5 [(⟨R, 2, none⟩, .bool stn.off), (⟨R, 5, none⟩, .int .i64 stn.writes)] (PlayS DiskAt w D R N (k + 1) stn)) (w5).drew from ⟨(cc HP6.out.2.1.off_at (cc HP6.out.2.1.writes_at cn)), (HP6.out.drew HC.out), (Below.refl _ _).drew⟩)
                  go_wp2_with fail
                  refine wp_region_kept _ (by kernel_rfl) (by kernel_rfl) HK.out ?_
                  intro hne
                  have f0 : ∀ x : HeldW (HoldS w5 [(⟨R, 2, none⟩, .bool stn.off), (⟨R, 5, none⟩, .int .i64 stn.writes)] (PlayS DiskAt w D R N (k + 1) stn)), x.w.cell? ⟨R, 2, none⟩ = some (.bool stn.off) := fun x => x.at_ 0 rfl
                  have f1 : ∀ x : HeldW (HoldS w5 [(⟨R, 2, none⟩, .bool stn.off), (⟨R, 5, none⟩, .int .i64 stn.writes)] (PlayS DiskAt w D R N (k + 1) stn)), x.w.cell? ⟨R, 5, none⟩ = some (.int .i64 stn.writes) := fun x => x.at_ 1 rfl
                  repeat (go_big_quiet_step (first | (go_at_call 25; rename_i xx; refine kept_of (HoldS.keep (fun _ _ h hb => h.below HC.out hb)) (HC.out.down xx.ok.2.1.1)) | (go_at_call 26; rename_i xx; refine kept_of (HoldS.keep (fun _ _ h hb => h.below HC.out hb)) (HC.out.writes xx.ok.2.1.1)) | (go_at_call 27; rename_i xx; refine kept_of (HoldS.keep (fun _ _ h hb => h.below HC.out hb)) (len_is HC.out xx.ok.2.1))))
                  refine wpQuiet_nil ?_
                  rintro w9 ⟨⟨_, hq⟩, rfl⟩
                  obtain ⟨hcs, h9, hb9⟩ := hq
                  clear f0 f1 hne hcs
                  clear hb9
                  go_wp2_with fail
                  go_roundw
                  case rel => exact ⟨k + 1, stn, by omega, by go_num, h9⟩
                  case measure => simp [intOf]; omega
                · have b1 : (kdk == 1) = false := by simpa using k1
                  go_wp2_with fail
                  refine (HC.out.start HP1.out.1 HP1.out.2.2.2.2.2.size).mono ?_
                  rintro e w4 ⟨rfl, hd4, ho4⟩
                  have hr4 := HP1.out.2.1.frame ho4 HC.out.apart
                  clear y0 y1 y4 y5
                  go_wp2_with fail
                  refine (refstart_is hr4).mono ?_
                  rintro e w5 ⟨rfl, hr5, ho5⟩
                  have HP5 := Lib.hid (HP1.out.step (step_start st) (HC.out.frame hd4 ho5) hr5 (ho4.or ho5))
                  clear hd4 ho4 hr4 hr5 ho5
                  obtain ⟨stn, hstn⟩ : ∃ stn, stn = startS st := ⟨_, rfl⟩
                  have HP6 := HP5.out
                  rw [← hstn] at HP6
                  replace HP6 := Lib.hid HP6
                  clear HP5 hstn
                  have HK := Lib.hid (show (HoldS w5 [(⟨R, 2, none⟩, .bool stn.off), (⟨R, 5, none⟩, .int .i64 stn.writes)] (PlayS DiskAt w D R N (k + 1) stn)) (w5).drew from ⟨(cc HP6.out.2.1.off_at (cc HP6.out.2.1.writes_at cn)), (HP6.out.drew HC.out), (Below.refl _ _).drew⟩)
                  go_wp2_with fail
                  refine wp_region_kept _ (by kernel_rfl) (by kernel_rfl) HK.out ?_
                  intro hne
                  have f0 : ∀ x : HeldW (HoldS w5 [(⟨R, 2, none⟩, .bool stn.off), (⟨R, 5, none⟩, .int .i64 stn.writes)] (PlayS DiskAt w D R N (k + 1) stn)), x.w.cell? ⟨R, 2, none⟩ = some (.bool stn.off) := fun x => x.at_ 0 rfl
                  have f1 : ∀ x : HeldW (HoldS w5 [(⟨R, 2, none⟩, .bool stn.off), (⟨R, 5, none⟩, .int .i64 stn.writes)] (PlayS DiskAt w D R N (k + 1) stn)), x.w.cell? ⟨R, 5, none⟩ = some (.int .i64 stn.writes) := fun x => x.at_ 1 rfl
                  repeat (go_big_quiet_step (first | (go_at_call 25; rename_i xx; refine kept_of (HoldS.keep (fun _ _ h hb => h.below HC.out hb)) (HC.out.down xx.ok.2.1.1)) | (go_at_call 26; rename_i xx; refine kept_of (HoldS.keep (fun _ _ h hb => h.below HC.out hb)) (HC.out.writes xx.ok.2.1.1)) | (go_at_call 27; rename_i xx; refine kept_of (HoldS.keep (fun _ _ h hb => h.below HC.out hb)) (len_is HC.out xx.ok.2.1))))
                  refine wpQuiet_nil ?_
                  rintro w9 ⟨⟨_, hq⟩, rfl⟩
                  obtain ⟨hcs, h9, hb9⟩ := hq
                  clear f0 f1 hne hcs
                  clear hb9
                  go_wp2_with fail
                  go_roundw
                  case rel => exact ⟨k + 1, stn, by omega, by go_num, h9⟩
                  case measure => simp [intOf]; omega
    · obtain rfl : k = n := by omega
      obtain ⟨kv, cv, hR, hbR, hkR, hcR, okR⟩ := HP.out.2.1
      have hB : RefB wr w.heap.size R _ kv cv st.kept st.cache := ⟨hR, hkR, hcR⟩
      have HB := Lib.hid hB
      obtain ⟨Ak, ck, Bk, dk, ek, _⟩ := hB.lens
      subst ek
      have c0 := hB.cell 0
      simp at c0
      have HN := Lib.hid HP.out.2.2.1
      have few := okR.few
      clear hR hkR hcR hB okR
      obtain ⟨wo, rfl⟩ : ∃ wo : World, wo = wr := ⟨_, rfl⟩
      go_wp2_with fail
      go_loopw [161] (fun i wr => ∃ q : Nat, q ≤ st.kept.length ∧ i = .int .i64 q ∧ Below wo.heap.size wo wr) (fun i _ => st.kept.length - (intOf i).toNat)
      case atStart => exact ⟨0, Nat.zero_le _, rfl, Below.refl _ _⟩
      case round =>
        obtain ⟨q, hq, rfl, hBq⟩ := hrel
        have HD := Lib.hid (HC.out.frame HP.out.1 (OnlyT.of_below hBq))
        by_cases hltq : q < st.kept.length
        · obtain ⟨g, cap, e3, k0⟩ := HB.out.kept_at (List.getElem?_eq_getElem hltq)
          replace k0 := cell_later hBq k0
          injection e3 with e3 _ e4
          subst e3 e4
          have hkq := HC.out.kept HD.out (q : Int)
          rw [show keptV st (q : Int) = st.kept[q] by unfold keptV; rw [if_neg (by omega)]; simp [hltq]] at hkq
          generalize st.kept[q] = sq at hkq k0
          have HK := Lib.hid hkq
          have sb : (sq.toList == sq.toList) = true := by simp
          have sb2 : (!(sq.toList == sq.toList)) = false := by simp
          clear hkq
          go_wp2_with fail
          refine HK.out.mono ?_
          rintro e w9 ⟨rfl, hb9⟩
          have hB9 := hBq.trans (hb9.mono hBq.size)
          clear HK hb9
          go_wp2_with fail
          go_roundw
          case rel => exact ⟨q + 1, by omega, by go_num, hB9⟩
          case measure => simp [intOf]; omega
        · have hk1 := HC.out.kept HD.out (N : Int)
          rw [show keptV st (N : Int) = ⟨#[]⟩ by unfold keptV; rw [if_pos (by rw [HN.out]; omega)]] at hk1
          have HK1 := Lib.hid hk1
          clear hk1
          go_wp2_with fail
          refine HK1.out.mono ?_
          rintro e w9 ⟨rfl, hb9⟩
          have hB9 := hBq.trans (hb9.mono hBq.size)
          have hk2 := HC.out.kept (HC.out.frame HP.out.1 (OnlyT.of_below hB9)) (-1 : Int)
          rw [show keptV st (-1 : Int) = ⟨#[]⟩ by unfold keptV; rw [if_pos (by omega)]] at hk2
          have HK2 := Lib.hid hk2
          clear hk2 hb9 HK1
          go_wp2_with fail
          refine HK2.out.mono ?_
          rintro e w10 ⟨rfl, hb10⟩
          have hB10 := hB9.trans (hb10.mono hB9.size)
          clear hb10 HK2
          go_wp2_with fail
          go_ret
          exact ⟨rfl, HP.out.2.2.2.2.2.trans (hB10.mono HP.out.2.2.2.2.2.size)⟩
end
end Go.Proofs.Ytabjpmofakdacaa
