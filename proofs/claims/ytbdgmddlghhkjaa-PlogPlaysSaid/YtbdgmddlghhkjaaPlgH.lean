/-
  What the program's renew and Append (package plog) do. No conditions but how the log and the disk lie, that the disk is on, with nothing in its cache, that the halves are there, and sizes.
-/
import Derived.Test.YtbdgmddlghhkjaaPlgG
namespace Go.Proofs.Ytbdgmddlghhkjaa
open Go.RowKit

section
variable {w : World} {pb db D B : Nat} {c : PCfg} {K : LogV} {v : Value} {st : Dk}
set_option maxHeartbeats 2000000 in
set_option maxRecDepth 100000 in
theorem prenew_is (h : PlgAt w pb D B c K v) (hd : DiskAt w db D st) (hdb : db ≤ w.heap.size) (F : PFit c K st) (s : ByteArray) (hs : s.size ≤ 50000) (hg : K.gen < 2147483646) (hroom : (cntN s.size : Int) ≤ c.half) :
    Calls Try.prog 32 #[.pointer (some ⟨B, 0, none⟩), .string s] w fun e w' => e = .returned (.int .i64 (layE st (cntN s.size))) ∧
      DiskAt w' db D (layS st (halfAt c.base c.half (K.gen + 1)) (textT s (stampV c) (K.gen + 1) 0) (cntN s.size)) ∧
      (∃ v', PlgAt w' pb D B { c with laid := c.laid + 1 } (if layE st (cntN s.size) = 0 then ⟨K.gen + 1, s, [], cntN s.size⟩ else K) v' ∧ (∀ g, v'.ownBlock = some g → v.ownBlock = some g ∨ w.heap.size ≤ g)) ∧
      OnlyP (fun i => i = B ∨ v.ownBlock = some i ∨ dskU db w i) w w' := by
  have hb0 := F.b0
  have hh0 := F.h0
  have hh1 := F.h1
  have hlen := F.len
  have hfew := (diskAt_ok hd).few
  have hg0 := F.g0
  have hcp := cnt_pos s.size
  obtain ⟨p, hp⟩ : ∃ p, p = halfAt c.base c.half (K.gen + 1) := ⟨_, rfl⟩
  have hp0 : 0 ≤ p ∧ p + c.half ≤ st.kept.length := by rw [hp]; unfold halfAt; split <;> omega
  have hok : layOk s (K.gen + 1) 0 = true := by
    unfold layOk
    simp only [Bool.and_eq_true, decide_eq_true_eq]
    omega
  have ST := Lib.hid (fun (W : World) (hW : PlgAt W pb D B c K v) => pstart_is hW (K.gen + 1) (by omega) (by omega) hb0 (by omega) (by omega) (by omega))
  have LAY := Lib.hid (fun (W : World) (hW : PlgAt W pb D B c K v) (hb : Below w.heap.size w W) => play_is hW (diskAt_later hd hb) (Nat.le_trans hdb hb.size) F.off F.cache s (by omega) p (K.gen + 1) 0 hok (by omega) (by omega) F.wr F.l0 F.l1 F.t0 F.t1)
  have SEC := Lib.hid (fun W : World => sectors_is s (by omega) W)
  rw [← hp] at ST ⊢
  have HP := Lib.hid h
  obtain ⟨n, hn⟩ : ∃ n, n = cntN s.size := ⟨_, rfl⟩
  rw [← hn] at hroom SEC hcp LAY ⊢
  have C2 := Lib.hid (fun (W : World) (hW : PlgAt W pb D B { c with laid := c.laid + 1 } K v) => show W.cell? ⟨B, 2, none⟩ = some (.int .i64 c.half) by simpa using cellH hW.1 2)
  have z5 := cellH h.1 5
  simp at z5
  have HN := Lib.hid hn
  obtain ⟨E, hE⟩ : ∃ E, E = layE st n := ⟨_, rfl⟩
  rw [← hE] at LAY ⊢
  clear hE
  obtain ⟨K', hK'⟩ : ∃ K', K' = if E = 0 then ⟨K.gen + 1, s, [], n⟩ else K := ⟨_, rfl⟩
  rw [← hK']
  have HK' := Lib.hid hK'
  clear hK' hp h hd hok hn
  go_enter Try.func32, Try.ntmps32
  go_wp2_with fail
  refine (ST.out _ HP.out).mono ?_
  rintro e W1 ⟨rfl, hb1⟩
  have HP1 := Lib.hid (HP.out.later hb1)
  have HB1 := Lib.hid hb1
  clear hb1
  go_wp2_with fail
  refine (LAY.out _ HP1.out HB1.out).mono ?_
  rintro e W3 ⟨rfl, hd3, hp3, ho3⟩
  have HD3 := Lib.hid hd3
  have HP3 := Lib.hid hp3
  have HO := Lib.hid (only_low (O := fun i => v.ownBlock = some i) HB1.out ho3)
  clear hd3 hp3 ho3 LAY ST HP1 HB1 z5 HP
  by_cases hz : E = 0
  rotate_left
  · have HK := Lib.hid (show K' = K from HK'.out.trans (if_neg hz))
    go_wp2_with fail
    go_ret
    exact ⟨rfl, HD3.out, ⟨_, by rw [HK.out]; exact HP3.out, fun g hg => .inl hg⟩, HO.out⟩
  · have HK := Lib.hid (show K' = ⟨K.gen + 1, s, [], n⟩ from HK'.out.trans (if_pos hz))
    subst hz
    clear HK'
    go_wp2_with fail
    have z2 := C2.out _ HP3.out
    refine wp_region_phase3 (AtW W3.drew) 13 1 (by kernel_rfl) (by kernel_rfl) rfl (by kernel_rfl) (by kernel_rfl) (by kernel_rfl) ⟨rfl⟩ ?_
    intro hne
    simp only [List.take_succ_cons, List.take_zero]
    have f2 : ∀ x : HeldW (AtW W3.drew), x.w.cell? ⟨B, 2, none⟩ = some (.int .i64 c.half) := fun x => by rw [x.ok.eq]; exact z2
    repeat (go_big_quiet_step (first | (go_at_call 24; rename_i xx; exact kept_same (SEC.out _))))
    refine wpQuiet_nil ?_
    rintro W6 ⟨⟨_, hF⟩, rfl⟩
    obtain rfl := hF.eq
    clear f2 hne hF z2
    have yf := freeH HP3.out.1
    have y5 := cellH HP3.out.1 5
    have y6 := cellH HP3.out.1 6
    have y7 := cellH HP3.out.1 7
    have y8 := cellH HP3.out.1 8
    simp at y5 y6 y7 y8
    refine one_ready (i := 13) (by kernel_rfl) (wpOp_step rfl (fun KK hKK => ?_))
    go_simp
    refine hKK _ _ ?_
    clear hKK KK
    refine ⟨by kernel_rfl, ?_⟩
    clear y5 y6 y7 y8 yf
    have hO8 : OnlyP (fun i => i = B) W3 ((((W3.setCell ⟨B, 5, none⟩ (.int .i64 (K.gen + 1))).setCell ⟨B, 6, none⟩ (.string s)).setCell ⟨B, 7, none⟩ (.slice none 0 0)).setCell ⟨B, 8, none⟩ (.int .i64 (c.half - n))).drew :=
      (((((OnlyP.refl (P := fun i => i = B) (w := W3)).setCell (g := B) (i := 5) (v := .int .i64 (K.gen + 1)) (.inl rfl)).setCell (g := B) (i := 6) (v := .string s) (.inl rfl)).setCell (g := B) (i := 7) (v := .slice none 0 0) (.inl rfl)).setCell (g := B) (i := 8) (v := .int .i64 (c.half - n)) (.inl rfl)).trans (OnlyP.of_below (P := fun i => i = B) (Below.refl _ _).drew) (fun _ _ q => q)
    have HO8 := Lib.hid hO8
    clear hO8
    have HD8 := Lib.hid (diskAt_only HD3.out HO8.out (fun i cs t m hi he => by
        subst hi
        rw [HP3.out.1] at he
        injection he with he
        injection he with _ ht
        rw [← ht]
        decide))
    have HP8 := Lib.hid (show PlgAt ((((W3.setCell ⟨B, 5, none⟩ (.int .i64 (K.gen + 1))).setCell ⟨B, 6, none⟩ (.string s)).setCell ⟨B, 7, none⟩ (.slice none 0 0)).setCell ⟨B, 8, none⟩ (.int .i64 (c.half - n))).drew pb D B { c with laid := c.laid + 1 } ⟨K.gen + 1, s, [], n⟩ (.slice none 0 0) from by
      have hrv : c.half - (n : Int) = roomV c.half ⟨K.gen + 1, s, [], n⟩ := by
        unfold roomV
        rw [if_neg (show ¬ K.gen + 1 = 0 by omega)]
      refine ⟨?_, HP3.out.2.1, World.ownsRow_nil _ _ _ _⟩
      show ((((W3.setCell ⟨B, 5, none⟩ (.int .i64 (K.gen + 1))).setCell ⟨B, 6, none⟩ (.string s)).setCell ⟨B, 7, none⟩ (.slice none 0 0)).setCell ⟨B, 8, none⟩ (.int .i64 (c.half - n))).heap[B]? = _
      rw [row_set (row_set (row_set (row_set HP3.out.1))), hrv]
      rfl)
    have HO9 := Lib.hid (HO.out.trans HO8.out (fun _ _ q => .inl q))
    clear HO HO8
    generalize ((((W3.setCell ⟨B, 5, none⟩ (.int .i64 (K.gen + 1))).setCell ⟨B, 6, none⟩ (.string s)).setCell ⟨B, 7, none⟩ (.slice none 0 0)).setCell ⟨B, 8, none⟩ (.int .i64 (c.half - n))).drew = W8 at *
    go_wp2_with fail
    go_ret
    exact ⟨rfl, HD8.out, ⟨.slice none 0 0, by rw [HK.out]; exact HP8.out, fun g hg => by simp [Value.ownBlock] at hg⟩, HO9.out⟩

/-- What Append answers, and leaves. -/
structure AppOut where
  e : Int
  laid : Int
  K : LogV
  st : Dk
def appP (c : PCfg) (K : LogV) (st : Dk) (rec after : ByteArray) : AppOut :=
  if 2147483646 ≤ K.gen then ⟨13, c.laid, K, st⟩ else
  if 0 < K.gen ∧ K.at_ + cntN rec.size ≤ c.half then
    ⟨layE st (cntN rec.size), c.laid + 1, if layE st (cntN rec.size) = 0 then { K with recs := K.recs ++ [rec], at_ := K.at_ + cntN rec.size } else K, layS st (halfAt c.base c.half K.gen + K.at_) (textT rec (stampV c) K.gen (K.recs.length + 1)) (cntN rec.size)⟩ else
  if (cntN after.size : Int) ≤ c.half then
    ⟨layE st (cntN after.size), c.laid + 1, if layE st (cntN after.size) = 0 then ⟨K.gen + 1, after, [], cntN after.size⟩ else K, layS st (halfAt c.base c.half (K.gen + 1)) (textT after (stampV c) (K.gen + 1) 0) (cntN after.size)⟩ else
  ⟨4, c.laid, K, st⟩

set_option maxHeartbeats 400000 in
set_option maxRecDepth 100000 in
theorem pappend_nil (rec after : ByteArray) (w : World) :
    Calls Try.prog 11 #[.pointer none, .string rec, .string after] w fun e w' => e = .returned (.int .i64 8) ∧ w = w' := by
  go_enter Try.func11, Try.ntmps11
  go_wp2_with fail
  go_ret
  exact ⟨rfl, rfl⟩

set_option maxHeartbeats 2000000 in
set_option maxRecDepth 100000 in
theorem pappend_is (h : PlgAt w pb D B c K v) (hd : DiskAt w db D st) (hdb : db ≤ w.heap.size) (hpb : pb ≤ w.heap.size) (F : PFit c K st) (rec after : ByteArray) (hr : rec.size ≤ 50000) (ha : after.size ≤ 50000) :
    Calls Try.prog 11 #[.pointer (some ⟨B, 0, none⟩), .string rec, .string after] w fun e w' => e = .returned (.int .i64 (appP c K st rec after).e) ∧
      DiskAt w' db D (appP c K st rec after).st ∧
      (∃ v', PlgAt w' pb D B { c with laid := (appP c K st rec after).laid } (appP c K st rec after).K v' ∧ (∀ g, v'.ownBlock = some g → v.ownBlock = some g ∨ w.heap.size ≤ g)) ∧
      OnlyP (fun i => i = B ∨ v.ownBlock = some i ∨ dskU db w i) w w' := by
  have hg0 := F.g0
  have hg1 := F.g1
  have ha0 := F.a0
  have ha1 := F.a1
  have hh0 := F.h0
  have hh1 := F.h1
  have hcr := cnt_pos rec.size
  have hca := cnt_pos after.size
  have z2 := cellH h.1 2
  have z5 := cellH h.1 5
  have z8 := cellH h.1 8
  simp at z2 z5 z8
  have hcr1 : cntN rec.size ≤ 50000 := by unfold cntN; split <;> omega
  have hca1 : cntN after.size ≤ 50000 := by unfold cntN; split <;> omega
  obtain ⟨O, hO⟩ : ∃ O, O = appP c K st rec after := ⟨_, rfl⟩
  rw [← hO]
  unfold appP at hO
  have SR := Lib.hid (fun W : World => sectors_is rec (by omega) W)
  have SA := Lib.hid (fun W : World => sectors_is after (by omega) W)
  by_cases hlim : 2147483646 ≤ K.gen
  · rw [if_pos hlim] at hO
    have HO := Lib.hid hO
    have HP := Lib.hid h
    have HD := Lib.hid hd
    clear hO h hd
    go_enter Try.func11, Try.ntmps11
    go_wp2_with fail
    go_ret
    exact ⟨ret_int (by rw [HO.out]), by rw [HO.out]; exact HD.out, ⟨v, by rw [HO.out]; exact HP.out, fun g hg => .inl hg⟩, OnlyP.refl⟩
  rw [if_neg hlim] at hO
  have hwd : ∀ (P : Nat → Prop) (a : World), OnlyP P w.drew a → OnlyP P w a := fun _ _ k => ⟨k.os, k.tape, k.output, k.size, k.block⟩
  have HWD := Lib.hid hwd
  clear hwd
  have HPD := Lib.hid (show PlgAt w.drew pb D B c K v from h.later (Below.refl _ _).drew)
  have HDD := Lib.hid (show DiskAt w.drew db D st from diskAt_later hd (Below.refl _ _).drew)
  obtain ⟨n, hn⟩ : ∃ n, n = cntN rec.size := ⟨_, rfl⟩
  obtain ⟨m, hm⟩ : ∃ m, m = cntN after.size := ⟨_, rfl⟩
  obtain ⟨rm, hrm⟩ : ∃ rm, rm = roomV c.half K := ⟨_, rfl⟩
  rw [← hrm] at z8
  rw [← hn] at SR hcr hcr1
  rw [← hm] at SA hca hca1
  have hrm0 : 0 ≤ rm ∨ rm < 0 := by omega
  by_cases hfit : 0 < K.gen ∧ K.at_ + cntN rec.size ≤ c.half
  · rw [if_pos hfit] at hO
    have HO := Lib.hid hO
    have hle : (n : Int) ≤ rm := by
      rw [hrm, hn]
      unfold roomV
      rw [if_neg (by omega)]
      omega
    have hrmb : rm ≤ 2000 := by
      rw [hrm]
      unfold roomV
      split <;> omega
    have AD := Lib.hid (padd_is HPD.out HDD.out hdb hpb F rec hr (by omega) hfit.2)
    clear hO h hd hn hm hrm hfit
    go_enter Try.func11, Try.ntmps11
    go_wp2_with fail
    refine wp_region_kept (AtW w.drew) (by kernel_rfl) (by kernel_rfl) ⟨rfl⟩ ?_
    intro hne
    have f8 : ∀ x : HeldW (AtW w.drew), x.w.cell? ⟨B, 8, none⟩ = some (.int .i64 rm) := fun x => by rw [x.ok.eq]; exact z8
    repeat (go_big_quiet_step (first | (go_at_call 24; rename_i xx; exact kept_same (SR.out _))))
    refine wpQuiet_nil ?_
    rintro W1 ⟨⟨_, hF⟩, rfl⟩
    obtain rfl := hF.eq
    clear f8 hne hF
    go_wp2_with fail
    refine (AD.out).mono ?_
    rintro e W3 ⟨rfl, hd3, hp3, ho3⟩
    have HD3 := Lib.hid hd3
    have HP3 := Lib.hid hp3
    have HO3 := Lib.hid (HWD.out _ _ ho3)
    clear hd3 hp3 ho3 AD
    go_wp2_with fail
    go_ret
    exact ⟨ret_int (by rw [HO.out]), by rw [HO.out]; exact HD3.out, by rw [HO.out]; exact HP3.out, HO3.out⟩
  rw [if_neg hfit] at hO
  have hle : ¬ (n : Int) ≤ rm := by
    rw [hrm, hn]
    unfold roomV
    split
    · rw [← hn]; omega
    · omega
  have hrmb : -2000 ≤ rm ∧ rm ≤ 2000 := by
    rw [hrm]
    unfold roomV
    split <;> omega
  obtain ⟨hrmb1, hrmb2⟩ := hrmb
  by_cases hbig : (cntN after.size : Int) ≤ c.half
  · rw [if_pos hbig] at hO
    have HO := Lib.hid hO
    have hle2 : (m : Int) ≤ c.half := by rw [hm]; exact hbig
    have REN := Lib.hid (prenew_is (w := w.drew.drew) (HPD.out.later (Below.refl _ _).drew) (diskAt_later HDD.out (Below.refl _ _).drew) hdb F after ha (by omega) hbig)
    clear hO h hd hn hm hrm hfit hbig
    go_enter Try.func11, Try.ntmps11
    go_wp2_with fail
    refine wp_region_kept (AtW w.drew) (by kernel_rfl) (by kernel_rfl) ⟨rfl⟩ ?_
    intro hne
    have f8 : ∀ x : HeldW (AtW w.drew), x.w.cell? ⟨B, 8, none⟩ = some (.int .i64 rm) := fun x => by rw [x.ok.eq]; exact z8
    repeat (go_big_quiet_step (first | (go_at_call 24; rename_i xx; exact kept_same (SR.out _))))
    refine wpQuiet_nil ?_
    rintro W1 ⟨⟨_, hF⟩, rfl⟩
    obtain rfl := hF.eq
    clear f8 hne hF
    go_wp2_with fail
    refine wp_region_kept (AtW w.drew.drew) (by kernel_rfl) (by kernel_rfl) ⟨rfl⟩ ?_
    intro hne
    have f2 : ∀ x : HeldW (AtW w.drew.drew), x.w.cell? ⟨B, 2, none⟩ = some (.int .i64 c.half) := fun x => by rw [x.ok.eq]; exact z2
    repeat (go_big_quiet_step (first | (go_at_call 24; rename_i xx; exact kept_same (SA.out _))))
    refine wpQuiet_nil ?_
    rintro W1 ⟨⟨_, hF⟩, rfl⟩
    obtain rfl := hF.eq
    clear f2 hne hF
    go_wp2_with fail
    refine (REN.out).mono ?_
    rintro e W3 ⟨rfl, hd3, hp3, ho3⟩
    have HD3 := Lib.hid hd3
    have HP3 := Lib.hid hp3
    have HO3 := Lib.hid (HWD.out _ _ (show OnlyP _ w.drew W3 from ⟨ho3.os, ho3.tape, ho3.output, ho3.size, ho3.block⟩))
    clear hd3 hp3 ho3 REN
    go_wp2_with fail
    go_ret
    exact ⟨ret_int (by rw [HO.out]), by rw [HO.out]; exact HD3.out, by rw [HO.out]; exact HP3.out, HO3.out⟩
  · rw [if_neg hbig] at hO
    have HO := Lib.hid hO
    have hle2 : ¬ (m : Int) ≤ c.half := by rw [hm]; exact hbig
    clear hO h hd hn hm hrm hfit hbig
    go_enter Try.func11, Try.ntmps11
    go_wp2_with fail
    refine wp_region_kept (AtW w.drew) (by kernel_rfl) (by kernel_rfl) ⟨rfl⟩ ?_
    intro hne
    have f8 : ∀ x : HeldW (AtW w.drew), x.w.cell? ⟨B, 8, none⟩ = some (.int .i64 rm) := fun x => by rw [x.ok.eq]; exact z8
    repeat (go_big_quiet_step (first | (go_at_call 24; rename_i xx; exact kept_same (SR.out _))))
    refine wpQuiet_nil ?_
    rintro W1 ⟨⟨_, hF⟩, rfl⟩
    obtain rfl := hF.eq
    clear f8 hne hF
    go_wp2_with fail
    refine wp_region_kept (AtW w.drew.drew) (by kernel_rfl) (by kernel_rfl) ⟨rfl⟩ ?_
    intro hne
    have f2 : ∀ x : HeldW (AtW w.drew.drew), x.w.cell? ⟨B, 2, none⟩ = some (.int .i64 c.half) := fun x => by rw [x.ok.eq]; exact z2
    repeat (go_big_quiet_step (first | (go_at_call 24; rename_i xx; exact kept_same (SA.out _))))
    refine wpQuiet_nil ?_
    rintro W1 ⟨⟨_, hF⟩, rfl⟩
    obtain rfl := hF.eq
    clear f2 hne hF
    go_wp2_with fail
    go_ret
    exact ⟨ret_int (by rw [HO.out]), by rw [HO.out]; exact diskAt_later HDD.out (Below.refl _ _).drew, ⟨v, by rw [HO.out]; exact HPD.out.later (Below.refl _ _).drew, fun g hg => .inl hg⟩, ⟨rfl, rfl, rfl, Nat.le_refl _, fun _ _ _ => rfl⟩⟩
end
end Go.Proofs.Ytbdgmddlghhkjaa
