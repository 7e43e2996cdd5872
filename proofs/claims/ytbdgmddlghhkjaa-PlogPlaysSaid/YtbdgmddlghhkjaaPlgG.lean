/-
  What the program's add and renew (package plog) do. No conditions but how the log and the disk lie, that the disk is on, with nothing in its cache, that the halves are there, and sizes.
-/
import Derived.Test.YtbdgmddlghhkjaaPlgF
namespace Go.Proofs.Ytbdgmddlghhkjaa
open Go.RowKit

/-- The log, the disk's number and sizes. -/
structure PFit (c : PCfg) (K : LogV) (st : Dk) : Prop where
  off : st.off = false
  cache : st.cache = []
  b0 : 0 ≤ c.base
  h0 : 1 ≤ c.half
  h1 : c.half ≤ 2000
  len : c.base + 2 * c.half ≤ st.kept.length
  wr : st.writes ≤ 900000
  l0 : 0 ≤ c.laid
  l1 : c.laid ≤ 1000000
  t0 : 0 ≤ c.boot
  t1 : c.boot < 4294967296
  g0 : 0 ≤ K.gen
  g1 : K.gen ≤ 2147483647
  a0 : 0 ≤ K.at_
  a1 : K.at_ ≤ 2000
  rl : K.recs.length ≤ 2000

def stampV (c : PCfg) : Int := c.boot * 4294967296 + (c.laid + 1)
/-- The log as it lies, all else below. -/
structure AdS (w : World) (pb D B : Nat) (c : PCfg) (K : LogV) (v : Value) (W : World) : Prop where
  plog : PlgAt W pb D B c K v
  low : Below w.heap.size w W
theorem AdS.keep {w : World} {pb D B : Nat} {c : PCfg} {K : LogV} {v : Value} : ∀ W W', AdS w pb D B c K v W → Below W.heap.size W W' → AdS w pb D B c K v W' :=
  fun _ _ h hb => ⟨h.plog.later hb, below_step h.low hb⟩

theorem only_low {db B : Nat} {O : Nat → Prop} {w a b : World} (hb : Below w.heap.size w a) (k : OnlyP (fun i => i = B ∨ dskU db a i) a b) : OnlyP (fun i => i = B ∨ O i ∨ dskU db w i) w b := by
  refine (OnlyP.of_below (P := fun i => i = B ∨ O i ∨ dskU db w i) hb).trans k (fun i hi hq => ?_)
  rcases hq with hq | ⟨h1, cs, t, m, h2, h3⟩
  · exact .inl hq
  · exact .inr (.inr ⟨h1, cs, t, m, by rw [← hb.block i hi]; exact h2, h3⟩)

section
variable {w : World} {pb db D B : Nat} {c : PCfg} {K : LogV} {v : Value} {st : Dk}
set_option maxHeartbeats 2000000 in
set_option maxRecDepth 100000 in
theorem padd_is (h : PlgAt w pb D B c K v) (hd : DiskAt w db D st) (hdb : db ≤ w.heap.size) (hpb : pb ≤ w.heap.size) (F : PFit c K st) (s : ByteArray) (hs : s.size ≤ 50000) (hg : 1 ≤ K.gen) (hroom : K.at_ + cntN s.size ≤ c.half) :
    Calls Try.prog 31 #[.pointer (some ⟨B, 0, none⟩), .string s] w fun e w' => e = .returned (.int .i64 (layE st (cntN s.size))) ∧
      DiskAt w' db D (layS st (halfAt c.base c.half K.gen + K.at_) (textT s (stampV c) K.gen (K.recs.length + 1)) (cntN s.size)) ∧
      (∃ v', PlgAt w' pb D B { c with laid := c.laid + 1 } (if layE st (cntN s.size) = 0 then { K with recs := K.recs ++ [s], at_ := K.at_ + cntN s.size } else K) v' ∧ (∀ g, v'.ownBlock = some g → v.ownBlock = some g ∨ w.heap.size ≤ g)) ∧
      OnlyP (fun i => i = B ∨ v.ownBlock = some i ∨ dskU db w i) w w' := by
  obtain ⟨A, cc, rfl, _⟩ := own_as h.2.2
  have hb0 := F.b0
  have hh0 := F.h0
  have hh1 := F.h1
  have hlen := F.len
  have hfew := (diskAt_ok hd).few
  have hg1 := F.g1
  have ha0 := F.a0
  have hrl := F.rl
  have hcp := cnt_pos s.size
  obtain ⟨p, hp⟩ : ∃ p, p = halfAt c.base c.half K.gen := ⟨_, rfl⟩
  have hp0 : 0 ≤ p ∧ p + c.half ≤ st.kept.length := by rw [hp]; unfold halfAt; split <;> omega
  have hok : layOk s K.gen (K.recs.length + 1) = true := by
    unfold layOk
    simp only [Bool.and_eq_true, decide_eq_true_eq]
    omega
  have ST := Lib.hid (fun (W : World) (hW : PlgAt W pb D B c K (.slice A K.recs.length cc)) => pstart_is hW K.gen (by omega) (by omega) hb0 (by omega) (by omega) (by omega))
  have LAY := Lib.hid (fun (W : World) (hW : PlgAt W pb D B c K (.slice A K.recs.length cc)) (hb : Below w.heap.size w W) => play_is hW (diskAt_later hd hb) (Nat.le_trans hdb hb.size) F.off F.cache s (by omega) (p + K.at_) K.gen (K.recs.length + 1) hok (by omega) (by omega) F.wr F.l0 F.l1 F.t0 F.t1)
  have SEC := Lib.hid (fun W : World => sectors_is s (by omega) W)
  have hroomv : roomV c.half K = c.half - K.at_ := by unfold roomV; rw [if_neg (by omega)]
  rw [← hp] at ST ⊢
  have HF := Lib.hid F
  have HP := Lib.hid h
  have HS0 := Lib.hid (show AdS w pb D B c K (.slice A K.recs.length cc) w.drew from ⟨h.later (Below.refl _ _).drew, (Below.refl _ _).drew⟩)
  obtain ⟨n, hn⟩ : ∃ n, n = cntN s.size := ⟨_, rfl⟩
  rw [← hn] at hroom SEC hcp LAY ⊢
  have c2 := fun (W : World) (hW : PlgAt W pb D B c K (.slice A K.recs.length cc)) => show W.cell? ⟨B, 2, none⟩ = some (.int .i64 c.half) by simpa using cellH hW.1 2
  have c5 := fun (W : World) (hW : PlgAt W pb D B c K (.slice A K.recs.length cc)) => show W.cell? ⟨B, 5, none⟩ = some (.int .i64 K.gen) by simpa using cellH hW.1 5
  have c7 := fun (W : World) (hW : PlgAt W pb D B c K (.slice A K.recs.length cc)) => show W.cell? ⟨B, 7, none⟩ = some (.slice A K.recs.length cc) by simpa using cellH hW.1 7
  have c8 := fun (W : World) (hW : PlgAt W pb D B c K (.slice A K.recs.length cc)) => show W.cell? ⟨B, 8, none⟩ = some (.int .i64 (c.half - K.at_)) by rw [← hroomv]; simpa using cellH hW.1 8
  have C2 := Lib.hid c2
  have C5 := Lib.hid c5
  have C7 := Lib.hid c7
  have C8 := Lib.hid c8
  have HN := Lib.hid hn
  obtain ⟨E, hE⟩ : ∃ E, E = layE st n := ⟨_, rfl⟩
  rw [← hE] at LAY ⊢
  clear hE
  obtain ⟨K', hK'⟩ : ∃ K', K' = if E = 0 then { K with recs := K.recs ++ [s], at_ := K.at_ + n } else K := ⟨_, rfl⟩
  rw [← hK']
  have HK' := Lib.hid hK'
  clear hK'
  clear c2 c5 c7 c8 hp h hd hok hn
  go_enter Try.func31, Try.ntmps31
  go_wp2_with fail
  refine wp_region_kept (AdS w pb D B c K (.slice A K.recs.length cc)) (by kernel_rfl) (by kernel_rfl) HS0.out ?_
  intro hne
  have f2 : ∀ x : HeldW (AdS w pb D B c K (.slice A K.recs.length cc)), x.w.cell? ⟨B, 2, none⟩ = some (.int .i64 c.half) := fun x => C2.out _ x.ok.plog
  have f5 : ∀ x : HeldW (AdS w pb D B c K (.slice A K.recs.length cc)), x.w.cell? ⟨B, 5, none⟩ = some (.int .i64 K.gen) := fun x => C5.out _ x.ok.plog
  have f8 : ∀ x : HeldW (AdS w pb D B c K (.slice A K.recs.length cc)), x.w.cell? ⟨B, 8, none⟩ = some (.int .i64 (c.half - K.at_)) := fun x => C8.out _ x.ok.plog
  repeat (go_big_quiet_step (first | (go_at_call 42; rename_i xx; exact kept_of AdS.keep (ST.out _ xx.ok.plog))))
  refine wpQuiet_nil ?_
  rintro W1 ⟨⟨_, hS1⟩, rfl⟩
  clear f2 f5 f8 hne HS0
  have HS1 := Lib.hid hS1
  clear hS1
  go_wp2_with fail
  rw [show p + c.half - (c.half - K.at_) = p + K.at_ by omega]
  refine wp_region_phase3 (AdS w pb D B c K (.slice A K.recs.length cc)) 13 2 (by kernel_rfl) (by kernel_rfl) rfl (by kernel_rfl) (by kernel_rfl) (by kernel_rfl) (AdS.keep _ _ HS1.out (Below.refl _ _).drew) ?_
  intro hne
  simp only [List.take_succ_cons, List.take_zero]
  have f5 : ∀ x : HeldW (AdS w pb D B c K (.slice A K.recs.length cc)), x.w.cell? ⟨B, 5, none⟩ = some (.int .i64 K.gen) := fun x => C5.out _ x.ok.plog
  have f7 : ∀ x : HeldW (AdS w pb D B c K (.slice A K.recs.length cc)), x.w.cell? ⟨B, 7, none⟩ = some (.slice A K.recs.length cc) := fun x => C7.out _ x.ok.plog
  repeat (go_big_quiet_step (fail))
  refine wpQuiet_nil ?_
  rintro W2 ⟨⟨_, hS2⟩, rfl⟩
  clear f5 f7 hne HS1
  have HS2 := Lib.hid hS2
  clear hS2
  refine one_ready (i := 13) (by kernel_rfl) (wpOp_step rfl (fun KK hKK => ?_))
  go_simp
  refine (LAY.out _ HS2.out.plog HS2.out.low).mono ?_
  rintro e W3 ⟨rfl, hd3, hp3, ho3⟩
  refine hKK _ _ ?_
  clear hKK KK
  refine one_ready (i := 14) (by kernel_rfl) (wpOp_step rfl (fun KK hKK => ?_))
  go_simp
  refine hKK _ _ ?_
  clear hKK KK
  refine ⟨by kernel_rfl, ?_⟩
  have HD3 := Lib.hid hd3
  have HP3 := Lib.hid hp3
  have HO3 := Lib.hid ho3
  have HL2 := Lib.hid HS2.out.low
  clear hd3 hp3 ho3 HS2 LAY ST
  have HO := Lib.hid (only_low (O := fun i => (Value.slice A K.recs.length cc).ownBlock = some i) HL2.out HO3.out)
  have HSZ := Lib.hid (show w.heap.size ≤ W3.heap.size from Nat.le_trans HL2.out.size HO3.out.size)
  clear HO3 HL2
  by_cases hz : E = 0
  rotate_left
  · have HK := Lib.hid (show K' = K from HK'.out.trans (if_neg hz))
    go_wp2_with fail
    go_ret
    exact ⟨rfl, HD3.out, ⟨_, by rw [HK.out]; exact HP3.out, fun g hg => .inl hg⟩, HO.out⟩
  · have HK := Lib.hid (show K' = { K with recs := K.recs ++ [s], at_ := K.at_ + n } from HK'.out.trans (if_pos hz))
    subst hz
    clear HK'
    obtain ⟨i0, hi0, q0, q1, q2⟩ := info_parts info_str4
    have z7 := cellH HP3.out.1 7
    have zf := freeH HP3.out.1
    simp at z7
    have HP4 := Lib.hid (HP3.out.later ((Below.refl _ _).alloc (Nat.le_refl _) (.cells #[.string s] 9)))
    have HNW := Lib.hid (show ∀ j u, [Value.string s][j]? = some u → (W3.alloc (.cells #[.string s] 9)).cell? ((⟨W3.heap.size, 0, none⟩ : Addr).add j) = some u from one_cell_new W3 (.string s) 9)
    have HLE := Lib.hid (show pb ≤ (W3.alloc (.cells #[.string s] 9)).heap.size by have := HSZ.out; simp; omega)
    have HNE := Lib.hid (show (Value.slice A K.recs.length cc).ownBlock ≠ some B from fun e => by
      obtain ⟨_, cs, h2⟩ := own_type HP4.out.2.2 e
      have := HP4.out.1
      rw [h2] at this
      injection this with this
      injection this with _ ht
      exact absurd ht (by decide))
    go_wp2_with (at_builtin; refine wpList_append_own_at _ rfl (.tmp 48) (.tmp 50) 35 rfl pb 9 i0 _ 1 16 Try.underlying35 hi0 q0 q1 q2 rfl (by omega) (.slice A K.recs.length cc) K.recs.length (txV K.recs) rfl HP4.out.2.2 ⟨W3.heap.size, 0, none⟩ 1 1 [.string s] rfl rfl HNW.out (by simp [Value.oneCell']) (by unfold maxLen; omega) (by omega) HLE.out ?_; intro v2 w4 hown4 hg4 _ hat4; obtain ⟨B2, c2, hv2⟩ : ∃ B2 c2, v2 = .slice B2 (K.recs.length + 1) c2 := (by rcases hown4.2 with ⟨_, e⟩ | ⟨q, cap, cur, e, _⟩; exact absurd e (by omega); exact ⟨_, _, e⟩); subst hv2; have HAT := Lib.hid hat4; have HG4 := Lib.hid hg4; have HW4 := Lib.hid hown4; have HR4 := Lib.hid (grown_at hg4 HP4.out.1 HNE.out); clear hat4 hg4 hown4; have y7 := cellH HR4.out 7; have yf := freeH HR4.out; simp at y7)
    have HR5 := Lib.hid (row_set (i := 7) (v := .slice B2 (K.recs.length + 1) c2) HR4.out)
    have HW5 := Lib.hid (own_set (g := B) (i := 7) (u := .slice B2 (K.recs.length + 1) c2) HW4.out HR4.out (by decide))
    have HG5 := Lib.hid (show OnlyP (fun i => i = B ∨ (Value.slice A K.recs.length cc).ownBlock = some i ∨ dskU db w i) w (w4.setCell ⟨B, 7, none⟩ (.slice B2 (K.recs.length + 1) c2)) from
      ((HO.out.alloc _).grown HG4.out (fun g hg => .inl (.inr (.inl hg)))).setCell (.inl (.inl rfl)))
    have HD5 := Lib.hid (show DiskAt (w4.setCell ⟨B, 7, none⟩ (.slice B2 (K.recs.length + 1) c2)) db D (layS st (p + K.at_) (textT s (c.boot * 4294967296 + (c.laid + 1)) K.gen (↑K.recs.length + 1)) n) from
      diskAt_only (P := fun i => i = B ∨ (Value.slice A K.recs.length cc).ownBlock = some i) (diskAt_later HD3.out ((Below.refl _ _).alloc (Nat.le_refl _) (.cells #[.string s] 9)))
        ((OnlyP.refl.grown HG4.out (fun g hg => .inl (.inr hg))).setCell (.inl (.inl rfl))) (fun i cs t m hi he => by
          rcases hi with hi | hi
          · subst hi
            rw [HP4.out.1] at he
            injection he with he
            injection he with _ ht
            rw [← ht]
            decide
          · obtain ⟨_, cs', h2⟩ := own_type HP4.out.2.2 hi
            rw [h2] at he
            injection he with he
            injection he with _ ht
            rw [← ht]
            decide))
    have HAT5 := Lib.hid (show ∀ g, (Value.slice B2 (K.recs.length + 1) c2).ownBlock = some g → (Value.slice A K.recs.length cc).ownBlock = some g ∨ w.heap.size ≤ g from fun g hg => by
      rcases HAT.out with e | e
      · exact .inl (e ▸ hg)
      · rw [e] at hg
        injection hg with hg
        have := HSZ.out
        rw [World.size_alloc] at hg
        exact .inr (by omega))
    have HBB := Lib.hid HP3.out.2.1
    generalize hW5 : w4.setCell ⟨B, 7, none⟩ (.slice B2 (K.recs.length + 1) c2) = W5 at HR5 HW5 HG5 HD5 ⊢
    clear hW5 HP3 HP4 HNW HLE HNE HAT HG4 HW4 HR4 HO HD3 y7 yf z7 zf i0 hi0 q0 q1 q2
    have y8 := cellH HR5.out 8
    simp [hroomv] at y8
    refine wp_region_phase3 (AtW W5.drew) 9 1 (by kernel_rfl) (by kernel_rfl) rfl (by kernel_rfl) (by kernel_rfl) (by kernel_rfl) ⟨rfl⟩ ?_
    intro hne
    simp only [List.take_succ_cons, List.take_zero]
    have f8 : ∀ x : HeldW (AtW W5.drew), x.w.cell? ⟨B, 8, none⟩ = some (.int .i64 (c.half - K.at_)) := fun x => by rw [x.ok.eq]; exact y8
    repeat (go_big_quiet_step (first | (go_at_call 24; rename_i xx; exact kept_same (SEC.out _))))
    refine wpQuiet_nil ?_
    rintro W6 ⟨⟨_, hF⟩, rfl⟩
    obtain rfl := hF.eq
    clear f8 hne hF
    have yf := freeH (show W5.drew.heap[B]? = _ from HR5.out)
    have yc := cellH (show W5.drew.heap[B]? = _ from HR5.out) 8
    simp at yc
    refine one_ready (i := 9) (by kernel_rfl) (wpOp_step rfl (fun KK hKK => ?_))
    go_simp
    refine hKK _ _ ?_
    clear hKK KK
    refine ⟨by kernel_rfl, ?_⟩
    go_wp2_with fail
    go_ret
    have hB8 : OnlyP (fun i => i = B) W5 (W5.setCell ⟨B, 8, none⟩ (.int .i64 (c.half - K.at_ - n))).drew := ((OnlyP.refl (P := fun i => i = B) (w := W5)).setCell (g := B) (i := 8) (v := .int .i64 (c.half - K.at_ - n)) (.inl rfl)).trans (OnlyP.of_below (P := fun i => i = B) (Below.refl _ _).drew) (fun _ _ q => q)
    refine ⟨rfl, ?_, ⟨.slice B2 (K.recs.length + 1) c2, ?_, HAT5.out⟩, HG5.out.trans hB8 (fun _ _ q => .inl q)⟩
    · exact diskAt_only HD5.out hB8 (fun i cs t m hi he => by
        subst hi
        rw [HR5.out] at he
        injection he with he
        injection he with _ ht
        rw [← ht]
        decide)
    · have hrv : c.half - K.at_ - (n : Int) = roomV c.half { K with recs := K.recs ++ [s], at_ := K.at_ + n } := by
        unfold roomV
        rw [if_neg (show ¬ K.gen = 0 by omega)]
        show _ = c.half - (K.at_ + (n : Int))
        omega
      rw [HK.out]
      have hl : (K.recs ++ [s]).length = K.recs.length + 1 := by simp
      have ht : txV (K.recs ++ [s]) = txV K.recs ++ [.string s] := List.map_append
      refine ⟨?_, HBB.out, ?_⟩
      · show (W5.setCell ⟨B, 8, none⟩ (.int .i64 (c.half - K.at_ - n))).heap[B]? = _
        rw [row_set HR5.out, hrv]
        rfl
      · show World.ownsRow _ pb _ 1 _ (K.recs ++ [s]).length (txV (K.recs ++ [s]))
        rw [hl, ht]
        exact own_agree (own_set HW5.out HR5.out (by decide)) (fun _ _ _ => rfl)
end
end Go.Proofs.Ytbdgmddlghhkjaa
