/-
  What the program's lay (package plog) does: a text's sectors are written one by one, till the power fails, or flushed. No conditions but how the log and the disk lie, that the disk is on, with nothing in its cache, that the sectors are there, and sizes.
-/
import Derived.Test.YtbdgmddlghhkjaaPlgE
namespace Go.Proofs.Ytbdgmddlghhkjaa
open Go.RowKit

/-- What is left, and answered, of n sectors that are written from p on. -/
def layS (st : Dk) (p : Int) (T : Nat → ByteArray) (n : Nat) : Dk :=
  if 1 ≤ st.armed ∧ st.armed ≤ n then writeS (wroteS st p T (st.armed - 1).toNat) (p + (st.armed - 1).toNat) (T (st.armed - 1).toNat) else flushS (wroteS st p T n)
def layE (st : Dk) (n : Nat) : Int := if 1 ≤ st.armed ∧ st.armed ≤ n then 5 else 0

theorem only_dsk {P : Nat → Prop} {db : Nat} {w a b : World} (h : OnlyP P w a) (hP : ∀ i, dskU db w i → P i) (k : OnlyT db progT a b) : OnlyP P w b := by
  refine h.trans (.of_onlyT k) (fun i hi hq => ?_)
  by_cases hp : P i
  · exact hp
  · refine hP i ?_
    obtain ⟨h1, cs, t, m, h2, h3⟩ := hq
    exact ⟨h1, cs, t, m, by rw [← h.block i hi hp]; exact h2, h3⟩
theorem keep_type {db : Nat} {a b : World} (k : OnlyT db progT a b) {g : Nat} {cs : Array Value} {t : TypeId} {m : Nat × Nat} (h : a.heap[g]? = some (.cells cs t m)) (ht : progT t = false) : b.heap[g]? = some (.cells cs t m) :=
  k.block g _ h (.inr fun cs' t' m' e => by injection e with _ e; rw [← e]; exact ht)

/-- What lies in memory while the sectors are written. -/
structure LayW (w : World) (pb db D B g : Nat) (c : PCfg) (K : LogV) (v : Value) (L : List ByteArray) (st : Dk) (W : World) : Prop where
  plog : PlgAt W pb D B c K v
  disk : DiskAt W db D st
  txt : W.heap[g]? = some (.cells (L.map .string).toArray 9 (0, 0))
  only : OnlyP (fun i => i = B ∨ dskU db w i) w W
theorem LayW.turn {w W W' : World} {pb db D B g : Nat} {c : PCfg} {K : LogV} {v : Value} {L : List ByteArray} {st st' : Dk} (h : LayW w pb db D B g c K v L st W) (k : OnlyT db progT W W') (hd : DiskAt W' db D st') : LayW w pb db D B g c K v L st' W' :=
  ⟨h.plog.onlyT k, hd, keep_type k h.txt (by decide), only_dsk h.only (fun _ q => .inr q) k⟩

/-- The two cells that the stamp is made of. -/
structure LyS (B : Nat) (b l : Int) (V W : World) : Prop where
  eq : W = V
  z3 : W.cell? ⟨B, 3, none⟩ = some (.int .u32 b)
  z4 : W.cell? ⟨B, 4, none⟩ = some (.int .u64 l)

section
variable {w : World} {pb db D B : Nat} {c : PCfg} {K : LogV} {v : Value} {st : Dk}
set_option maxHeartbeats 2000000 in
set_option maxRecDepth 100000 in
theorem play_is (h : PlgAt w pb D B c K v) (hd : DiskAt w db D st) (hdb : db ≤ w.heap.size) (ho : st.off = false) (hc : st.cache = []) (s : ByteArray) (hs : s.size ≤ 100000) (at_ gen no : Int) (hok : layOk s gen no = true)
    (ha0 : 0 ≤ at_) (ha1 : at_ + cntN s.size ≤ st.kept.length) (hw : st.writes ≤ 900000) (l0 : 0 ≤ c.laid) (l1 : c.laid ≤ 1000000) (t0 : 0 ≤ c.boot) (t1 : c.boot < 4294967296) :
    Calls Try.prog 45 #[.pointer (some ⟨B, 0, none⟩), .string s, .int .i64 at_, .int .i64 gen, .int .i64 no] w fun e w' => e = .returned (.int .i64 (layE st (cntN s.size))) ∧
      DiskAt w' db D (layS st at_ (textT s (c.boot * 4294967296 + (c.laid + 1)) gen no) (cntN s.size)) ∧ PlgAt w' pb D B { c with laid := c.laid + 1 } K v ∧ OnlyP (fun i => i = B ∨ dskU db w i) w w' := by
  obtain ⟨X, hX⟩ : ∃ X, X = c.boot * 4294967296 + (c.laid + 1) := ⟨_, rfl⟩
  rw [← hX]
  have hX0 : 0 ≤ X := by omega
  have hX1 : X < 18446744073709551616 := by omega
  have DOWN := Lib.hid (ddown_is hd)
  rw [ho] at DOWN
  have har0 := (diskAt_ok hd).armed0
  have hfew := (diskAt_ok hd).few
  have LAY := Lib.hid (fun W : World => lay_is s (by omega) X gen no hX0 hX1 W)
  obtain ⟨T, hT⟩ : ∃ T, T = textT s X gen no := ⟨_, rfl⟩
  obtain ⟨n, hn⟩ : ∃ n, n = cntN s.size := ⟨_, rfl⟩
  have hn1 : n ≤ 10000 := by rw [hn]; unfold cntN; split <;> omega
  rw [← hT, ← hn]
  rw [← hn] at LAY ha1
  have HT := Lib.hid hT
  have HNN := Lib.hid hn
  clear hT hn
  obtain ⟨c', hc'⟩ : ∃ c' : PCfg, c' = { c with laid := c.laid + 1 } := ⟨_, rfl⟩
  rw [← hc']
  have hP0 : PlgAt (w.setCell ⟨B, 4, none⟩ (.int .u64 (c.laid + 1))) pb D B c' K v := by
    refine ⟨?_, h.2.1, own_set h.2.2 h.1 (by decide)⟩
    rw [row_set h.1, hc']
    rfl
  have hO0 : OnlyP (fun i => i = B ∨ dskU db w i) w (w.setCell ⟨B, 4, none⟩ (.int .u64 (c.laid + 1))) := OnlyP.refl.setCell (.inl (.inl rfl))
  have hD0 : DiskAt (w.setCell ⟨B, 4, none⟩ (.int .u64 (c.laid + 1))) db D st := diskAt_only (P := fun i => i = B) hd (OnlyP.refl.setCell (.inl rfl)) (fun i cs t m hi he => by
    subst hi
    rw [h.1] at he
    injection he with he
    injection he with _ ht
    rw [← ht]
    decide)
  have x0 := cellH h.1 0
  have x4 := cellH h.1 4
  have xf := freeH h.1
  simp at x0 x4
  have HP0 := Lib.hid hP0
  have HO0 := Lib.hid hO0
  have HD0 := Lib.hid hD0
  have HX := Lib.hid hX
  have HC' := Lib.hid hc'
  have hsz0 : (w.setCell ⟨B, 4, none⟩ (.int .u64 (c.laid + 1))).heap.size = w.heap.size := by simp [World.setCell]
  have HSZ := Lib.hid hsz0
  clear hP0 hO0 hD0 hX hc' hsz0 h hd
  go_enter Try.func45, Try.ntmps45
  go_wp2_with fail
  refine (DOWN.out).mono ?_
  rintro e w1 ⟨rfl, hw1⟩
  subst hw1
  go_upto_region 4 with fail
  generalize w.setCell ⟨B, 4, none⟩ (.int .u64 (c.laid + 1)) = W0 at *
  have z3 := cellH HP0.out.1 3
  have z4 := cellH HP0.out.1 4
  rw [HC'.out] at z3 z4
  simp at z3 z4
  refine wp_region_phase3 (LyS B c.boot (c.laid + 1) W0.drew) 14 6 (by kernel_rfl) (by kernel_rfl) rfl (by kernel_rfl) (by kernel_rfl) (by kernel_rfl) ⟨rfl, z3, z4⟩ ?_
  intro hne
  simp only [List.take_succ_cons, List.take_zero]
  have f3 : ∀ x : HeldW (LyS B c.boot (c.laid + 1) W0.drew), x.w.cell? ⟨B, 3, none⟩ = some (.int .u32 c.boot) := fun x => x.ok.z3
  have f4 : ∀ x : HeldW (LyS B c.boot (c.laid + 1) W0.drew), x.w.cell? ⟨B, 4, none⟩ = some (.int .u64 (c.laid + 1)) := fun x => x.ok.z4
  repeat (go_big_quiet_step (fail))
  refine wpQuiet_nil ?_
  rintro W1 ⟨⟨_, hF⟩, rfl⟩
  obtain rfl := hF.eq
  clear f3 f4 hne hF z3 z4
  rw [← HX.out]
  refine one_ready (i := 14) (by kernel_rfl) (wpOp_step rfl (fun K' hK' => ?_))
  go_simp
  refine (LAY.out _).mono ?_
  rintro e w2 ⟨hb2, ⟨h1, _⟩ | ⟨_, g, hg, rfl, ht⟩⟩
  · rw [hok] at h1; cases h1
  refine hK' _ _ ?_
  clear hK' K'
  have hLW : LayW w pb db D B g c' K v (layL s X gen no) st w2 := by
    have hb : Below W0.heap.size W0 w2 := (Below.refl _ _).drew.trans hb2
    have hO := HO0.out.trans (OnlyP.of_below hb) (fun i _ q => q)
    exact ⟨HP0.out.later hb, diskAt_later HD0.out hb, ht, hO⟩
  have HLW := Lib.hid hLW
  clear hLW ht hb2 hg
  obtain ⟨L, hL⟩ : ∃ L, L = layL s X gen no := ⟨_, rfl⟩
  rw [← hL] at HLW
  have HTL := Lib.hid (show ∀ j, j < n → L[j]? = some (T j) from fun j hj => by rw [hL, HT.out]; exact layL_at (by rw [← HNN.out]; exact hj))
  have HTS := Lib.hid (show ∀ j, j < n → (T j).size = 64 from fun j hj => by
    have hr : rightP (pieceI s X gen no j) = true := (piece_right (by rw [← HNN.out]; exact hj)).trans hok
    rw [HT.out]
    exact print_size ((rightP_iff _).1 hr).d)
  clear hL
  refine any_phase3 (AtW w2) 15 5 0 (by kernel_rfl) rfl (by kernel_rfl) (by kernel_rfl) (by kernel_rfl) (by kernel_rfl) ⟨rfl⟩ ?_
  intro hne
  simp only [List.take_succ_cons, List.take_zero, List.drop_succ_cons, List.drop_zero]
  repeat (go_big_quiet_step (fail))
  refine wpQuiet_nil ?_
  rintro W1 ⟨⟨_, hF⟩, rfl⟩
  obtain rfl := hF.eq
  clear hne hF
  refine ⟨by kernel_rfl, ?_⟩
  go_wp2_with fail
  go_loopw [51] (fun i wr => ∃ j : Nat, j ≤ n ∧ i = .int .i64 j ∧ LayW w pb db D B g c' K v L (wroteS st at_ T j) wr ∧ (st.armed = 0 ∨ (j : Int) < st.armed)) (fun i _ => n - (intOf i).toNat)
  case atStart => exact ⟨0, Nat.zero_le _, rfl, by rw [wrote_zero hc]; exact HLW.out, by omega⟩
  case round =>
    obtain ⟨j, hj, rfl, hlw, har⟩ := hrel
    have HL := Lib.hid hlw
    clear hlw HLW
    have z0 := cellH HL.out.plog.1 0
    simp at z0
    by_cases hlt : j < n
    · have hzt : wr.cell? ⟨g, j, none⟩ = some (.string (T j)) := by
        rw [cellH HL.out.txt j]
        simp [HTL.out j hlt]
      have WR := Lib.hid (dwrite_is HL.out.disk (Nat.le_trans hdb HL.out.only.size) (by show (rowC at_ T j).length < _; rw [rowC_len]; omega) (by show st.writes + (j : Int) ≤ _; omega) (at_ + j) (T j))
      have hts : (T j).size = 64 := HTS.out j hlt
      by_cases hfail : st.armed = (j : Int) + 1
      · obtain ⟨e1, _⟩ := wrote_fail (T := T) (p := at_) ho ha0 (by omega) hts hfail
        rw [e1] at WR
        have HE := Lib.hid (show layE st n = 5 ∧ layS st at_ T n = writeS (wroteS st at_ T j) (at_ + j) (T j) by
          have hj2 : (st.armed - 1).toNat = j := by omega
          unfold layE layS
          rw [if_pos (by omega), if_pos (by omega), hj2]
          exact ⟨rfl, rfl⟩)
        clear e1 hfail har hts
        generalize T j = tj at *
        go_wp2_with fail
        refine (WR.out).mono ?_
        rintro e w3 ⟨rfl, hd3, ho3⟩
        have HL3 := Lib.hid (HL.out.turn ho3 hd3)
        clear hd3 ho3 HL z0 hzt
        go_wp2_with fail
        go_ret
        exact ⟨ret_int HE.out.1.symm, by rw [HE.out.2]; exact HL3.out.disk, HL3.out.plog, HL3.out.only⟩
      · obtain ⟨e1, e2⟩ := wrote_next (T := T) (p := at_) ho ha0 (by omega) hts (by omega)
        rw [e1, e2] at WR
        clear e1 e2 hts
        generalize T j = tj at *
        go_wp2_with fail
        refine (WR.out).mono ?_
        rintro e w3 ⟨rfl, hd3, ho3⟩
        have HL3 := Lib.hid (HL.out.turn ho3 hd3)
        clear hd3 ho3 HL z0 hzt
        go_wp2_with fail
        go_roundw
        case rel => exact ⟨j + 1, by omega, by go_num, HL3.out, by omega⟩
        case measure => simp [intOf]; omega
    · obtain rfl : j = n := by omega
      have FL := Lib.hid (dflush_is HL.out.disk (by show (rowC at_ T j).length ≤ _; rw [rowC_len]; omega))
      rw [(wrote_flush ho).1] at FL
      have HE := Lib.hid (show layE st j = 0 ∧ layS st at_ T j = flushS (wroteS st at_ T j) by
          unfold layE layS
          rw [if_neg (by omega), if_neg (by omega)]
          exact ⟨rfl, rfl⟩)
      clear har
      go_wp2_with fail
      refine (FL.out).mono ?_
      rintro e w3 ⟨rfl, hd3, ho3⟩
      have HL3 := Lib.hid (HL.out.turn ho3 hd3)
      clear hd3 ho3 HL z0
      go_wp2_with fail
      go_ret
      exact ⟨ret_int HE.out.1.symm, by rw [HE.out.2]; exact HL3.out.disk, HL3.out.plog, HL3.out.only⟩
end
end Go.Proofs.Ytbdgmddlghhkjaa
