/-
  The law PlogPlays, walked. No conditions but how the arguments lie in memory.
-/
import Derived.Test.YtbdgmddlghhkjaaPlgZ
import Derived.Test.YtbdgmddlghhkjaaRegion
namespace Go.Proofs.Ytbdgmddlghhkjaa
open Go.RowKit

section
variable {w : World} {A : Option Addr} {n c0 : Nat} {rc af : Nat → ByteArray} {ca cb : Nat → Int}
set_option maxHeartbeats 1000000 in
set_option maxRecDepth 100000 in
theorem plays_long (b0 h0 : Int) (hA : PopsAt w A n rc af ca cb) (hn : n ≤ 9223372036854775807) (hf : ¬ fewOk n rc af) : Calls Try.prog 3 #[.int .i64 b0, .int .i64 h0, .slice A n c0] w fun e w' => e = .returned (.bool true) ∧ Below w.heap.size w w' := by
  obtain ⟨m, hm, hm30⟩ := at_count30 h0
  obtain ⟨mb, hmb, hmb5⟩ := at_count5 b0
  have HA := Lib.hid hA
  have HF := Lib.hid hf
  clear hA hf
  go_enter Try.func3, Try.ntmps3
  go_wp2_with fail
  refine (awake_true _).mono ?_
  rintro e w1 ⟨rfl, hb1⟩
  go_wp2_with fail
  refine (few_is (HA.out.later hb1) hn).mono ?_
  rintro e w2 ⟨⟨b, rfl, hb⟩, hb2⟩
  obtain rfl : b = false := by
    cases b
    · rfl
    · exact absurd (hb rfl) HF.out
  have hB := below_step hb1 hb2
  clear hb1 hb2 hb
  go_wp2_with fail
  refine (awake_true _).mono ?_
  rintro e w3 ⟨rfl, hb3⟩
  have hB2 := below_step hB hb3
  clear hb3 hB
  go_wp2_with fail
  go_ret
  exact ⟨rfl, hB2⟩

/-- What is held between the calls. -/
structure PyS (w : World) (b half : Int) (D k B R : Nat) (c : PCfg) (K : LogV) (st : Dk) (v u : Value) (P : Nat → Prop) (W : World) : Prop where
  log : LogM W w.heap.size D B k c K st v
  ref : RLogM W P R (refOf half K) u
  base : c.base = b
  half_ : c.half = half
  boot : c.boot ≤ k + 1
  arm : st.armed = 0
  nB : ¬ P B
  nv : ∀ g, v.ownBlock = some g → ¬ P g
  pb : ∀ i, P i → w.heap.size ≤ i
  low : Below w.heap.size w W
theorem PyS.later {b half : Int} {D k B R : Nat} {c : PCfg} {K : LogV} {st : Dk} {v u : Value} {P : Nat → Prop} {W W' : World} (h : PyS w b half D k B R c K st v u P W) (hb : Below W.heap.size W W') : PyS w b half D k B R c K st v u P W' :=
  { h with log := h.log.later hb, ref := h.ref.below hb, low := below_step h.low hb }
/-- One call's texts lie there. -/
structure OpC (g : Nat) (s t : ByteArray) (a b : Int) (W : World) : Prop where
  at_ : W.heap[g]? = some (.cells #[.string s, .string t, .int .i64 a, .int .u64 b] 42 (0, 0))
/-- All that was there is as it was. -/
structure LowB (V W : World) : Prop where
  low : Below V.heap.size V W
theorem LowB.keep {V : World} : ∀ W W', LowB V W → Below W.heap.size W W' → LowB V W' := fun _ _ h hb => ⟨below_step h.low hb⟩

set_option maxHeartbeats 4000000 in
set_option maxRecDepth 100000 in
theorem plays_good (b0 h0 : Int) (hA : PopsAt w A n rc af ca cb) (hf : fewOk n rc af) : Calls Try.prog 3 #[.int .i64 b0, .int .i64 h0, .slice A n c0] w fun e w' => e = .returned (.bool true) ∧ Below w.heap.size w w' := by
  obtain ⟨m, hm, hm30⟩ := at_count30 h0
  obtain ⟨mb, hmb, hmb5⟩ := at_count5 b0
  have HA := Lib.hid hA
  have HF := Lib.hid hf
  have hn60 := hf.1
  have INV := Lib.hid (inv_new (n := mb + 2 * (1 + m)) (b := (mb : Int)) (half := 1 + (m : Int)) (boot := 1) (by omega) (by omega) (by omega) (by omega) (by omega) (by omega))
  have NEW := Lib.hid (fun W : World => dnew_yes (mb + 2 * (1 + m)) W (by omega) (by omega))
  rw [show ((mb + 2 * (1 + m) : Nat) : Int) = (mb : Int) + 2 * (1 + (m : Int)) by omega] at NEW
  have FEW := Lib.hid (fun (W : World) (hW : Below w.heap.size w W) => (few_is (c := c0) (hA.later hW) (by omega)).mono (fun e W' h => (show (e = .returned (.bool true) ∨ e = .returned (.bool false)) ∧ Below W.heap.size W W' from by
    obtain ⟨⟨b, h1, _⟩, h2⟩ := h
    refine ⟨?_, h2⟩
    cases b
    · exact .inr h1
    · exact .inl h1)))
  clear hA hf
  go_enter Try.func3, Try.ntmps3
  go_wp2_with fail
  refine (awake_true _).mono ?_
  rintro e w1 ⟨rfl, hb1⟩
  have HB1 := Lib.hid hb1
  clear hb1
  go_wp2_with fail
  refine (FEW.out _ HB1.out).mono ?_
  rintro e w2 ⟨he, hb2⟩
  have HB2 := Lib.hid (below_step HB1.out hb2)
  clear hb2 HB1
  rcases he with rfl | rfl
  rotate_left
  · go_wp2_with fail
    refine (awake_true _).mono ?_
    rintro e w3 ⟨rfl, hb3⟩
    have hB2 := below_step HB2.out hb3
    clear hb3
    go_wp2_with fail
    go_ret
    exact ⟨rfl, hB2⟩
  go_wp2_with fail
  refine (NEW.out _).mono ?_
  rintro e w3 ⟨D, rfl, hd3, hb3⟩
  have HD3 := Lib.hid (diskAt_mono hd3 HB2.out.size)
  have HB3 := Lib.hid (below_step HB2.out hb3)
  clear hd3 hb3 HB2 NEW FEW
  go_wp2_with fail
  refine (lopen_is HD3.out INV.out).mono ?_
  rintro e w4 ⟨B, v, rfl, hp4, hb4⟩
  have HB4 := Lib.hid (below_step HB3.out hb4)
  have HL4 := Lib.hid (LogM.mono hp4 HB3.out.size (diskAt_later HD3.out hb4) INV.out)
  clear hp4 hb4 HD3 HB3 INV
  have HBA := Lib.hid (show Below w4.heap.size w4 (w4.alloc (.cells #[.int .i64 0, .int .i64 (1 + (m : Int)), .string ⟨#[]⟩, .slice none 0 0, .int .i64 0] 37)) from (Below.refl _ _).alloc (Nat.le_refl _) _)
  have HS5 := Lib.hid (show PyS w mb (1 + (m : Int)) D 0 B w4.heap.size ⟨mb, 1 + (m : Int), 1, 0⟩ noLog (newS (mb + 2 * (1 + m))) v (.slice none 0 0) (fun i => i = w4.heap.size) (w4.alloc (.cells #[.int .i64 0, .int .i64 (1 + (m : Int)), .string ⟨#[]⟩, .slice none 0 0, .int .i64 0] 37)) from
    ⟨HL4.out.later HBA.out, ⟨fun i hi => by subst hi; simp, rfl, made_at _ _, fun g hg => by simp [Value.ownBlock] at hg, World.ownsRow_nil _ _ _ _⟩, rfl, rfl, by show (1 : Int) ≤ 0 + 1; omega, rfl,
      fun e => by have := HL4.out.lts.1; omega, fun g hg e => by have := HL4.out.lts.2 g hg; omega, fun i hi => by subst hi; exact HB4.out.size, below_step HB4.out HBA.out⟩)
  clear HBA
  go_wp2_with fail
  generalize w4.alloc (.cells #[.int .i64 0, .int .i64 (1 + (m : Int)), .string ⟨#[]⟩, .slice none 0 0, .int .i64 0] 37) = w5 at *
  generalize w4.heap.size = R at *
  clear HL4 HB4
  obtain ⟨half, hhalf⟩ : ∃ half : Int, half = 1 + (m : Int) := ⟨_, rfl⟩
  rw [← hhalf] at HS5
  have HH := Lib.hid hhalf
  clear hhalf
  go_loopw [9, 56] (fun a9 i wr => ∃ (k B : Nat) (c : PCfg) (K : LogV) (st : Dk) (v u : Value) (P : Nat → Prop), k ≤ n ∧ i = .int .i64 k ∧ a9 = .pointer (some ⟨B, 0, none⟩) ∧ PyS w mb half D k B R c K st v u P wr) (fun _ i _ => n - (intOf i).toNat)
  case atStart => exact ⟨0, B, _, _, _, _, _, _, Nat.zero_le _, rfl, rfl, HS5.out⟩
  case round =>
    clear HS5
    obtain ⟨k, B, c, K, st, v, u, P, hk, rfl, rfl, hG⟩ := hrel
    have hch := hG.half_
    subst hch
    have HG := Lib.hid hG
    clear hG
    by_cases hlt : k < n
    · obtain ⟨ad, e, hcell⟩ := HA.out (by omega)
      subst e
      obtain ⟨y0, y1, y2, y3⟩ := hcell k hlt
      have x0 := cell_later HG.out.low y0
      have x1 := cell_later HG.out.low y1
      have x2 := cell_later HG.out.low y2
      have x3 := cell_later HG.out.low y3
      obtain ⟨hs1, hs2⟩ := HF.out.2 k hlt
      clear hcell y0 y1 y2 y3
      generalize rc k = s at x0 hs1
      generalize af k = t at x1 hs2
      generalize ca k = a at x2
      generalize cb k = b at x3
      have HBA := Lib.hid (show Below wr.heap.size wr (wr.alloc (.cells #[.string s, .string t, .int .i64 a, .int .u64 b] 42)).drew from ((Below.refl _ _).alloc (Nat.le_refl _) _).drew)
      have HG1 := Lib.hid (HG.out.later HBA.out)
      have HO1 := Lib.hid (show OpC wr.heap.size s t a b (wr.alloc (.cells #[.string s, .string t, .int .i64 a, .int .u64 b] 42)).drew from ⟨made_at wr _⟩)
      have HLT := Lib.hid (show B < wr.heap.size ∧ (∀ g, v.ownBlock = some g → g < wr.heap.size) ∧ ∀ i, P i → i < wr.heap.size from ⟨HG.out.log.lts.1, HG.out.log.lts.2, HG.out.ref.lt⟩)
      clear HBA HG
      have hlh := appendR_half (refOf c.half K) s t
      have hcd := appendR_codes (refOf c.half K) s t
      obtain ⟨LR, hLR⟩ : ∃ LR, LR = appendR (refOf c.half K) s t := ⟨_, rfl⟩
      rw [← hLR] at hlh hcd
      have HLR := Lib.hid hLR
      clear hLR
      obtain ⟨L', E'⟩ := LR
      simp only at hlh hcd
      have HLH := Lib.hid (show L'.half = c.half from hlh)
      clear hlh
      have HCK := Lib.hid (show appendR (refOf c.half K) s t = (refOf c.half (ofRef L'), E') from by rw [refOf_of HLH.out, ← HLR.out])
      go_upto_region 12 with fail
      refine wp_region_noPanic ?_
      generalize hwa : wr.alloc (.cells #[.string s, .string t, .int .i64 a, .int .u64 b] 42) = wa at *
      clear hwa
      generalize wr.heap.size = g0 at *
      have hcdv : E' ≠ 5 := by rcases hcd with h | h | h <;> omega
      clear hcd x0 x1 x2 x3
      refine wp_region_held_drew (S := OpC g0 s t a b) (by kernel_rfl) HO1.out (fun hHeld => ?_)
      refine take_yes 0 61 (v := ?_) rfl rfl (by kernel_rfl) (by kernel_rfl) (by kernel_rfl) noPanic_any (by rfl) hHeld ?_ ?_
      rotate_left
      · intro wx hSw; clear hSw; go_simp <;> with_reducible rfl
      simp only [Act.put, List.setIfInBounds_toArray, List.set_cons_zero, List.set_cons_succ]
      refine take_yes 1 62 (v := ?_) rfl rfl (by kernel_rfl) (by kernel_rfl) (by kernel_rfl) noPanic_any (by rfl) hHeld ?_ ?_
      rotate_left
      · intro wx hSw; clear hSw; go_simp <;> with_reducible rfl
      simp only [Act.put, List.setIfInBounds_toArray, List.set_cons_zero, List.set_cons_succ]
      refine take_yes 2 63 (v := ?_) rfl rfl (by kernel_rfl) (by kernel_rfl) (by kernel_rfl) noPanic_any (by rfl) hHeld ?_ ?_
      rotate_left
      · intro wx hSw; have z0 := cellH hSw.at_ 0; have z1 := cellH hSw.at_ 1; simp at z0 z1; clear hSw; go_simp <;> with_reducible rfl
      simp only [Act.put, List.setIfInBounds_toArray, List.set_cons_zero, List.set_cons_succ]
      refine take_yes 3 64 (v := ?_) rfl rfl (by kernel_rfl) (by kernel_rfl) (by kernel_rfl) noPanic_any (by rfl) hHeld ?_ ?_
      rotate_left
      · intro wx hSw; clear hSw; go_simp <;> with_reducible rfl
      simp only [Act.put, List.setIfInBounds_toArray, List.set_cons_zero, List.set_cons_succ]
      refine take_yes 4 65 (v := ?_) rfl rfl (by kernel_rfl) (by kernel_rfl) (by kernel_rfl) noPanic_any (by rfl) hHeld ?_ ?_
      rotate_left
      · intro wx hSw; have z0 := cellH hSw.at_ 0; have z1 := cellH hSw.at_ 1; simp at z0 z1; clear hSw; go_simp <;> with_reducible rfl
      simp only [Act.put, List.setIfInBounds_toArray, List.set_cons_zero, List.set_cons_succ]
      refine take_yes 6 67 (v := ?_) rfl rfl (by kernel_rfl) (by kernel_rfl) (by kernel_rfl) noPanic_any (by rfl) hHeld ?_ ?_
      rotate_left
      · intro wx hSw; clear hSw; go_simp <;> with_reducible rfl
      simp only [Act.put, List.setIfInBounds_toArray, List.set_cons_zero, List.set_cons_succ]
      refine take_yes 7 68 (v := ?_) rfl rfl (by kernel_rfl) (by kernel_rfl) (by kernel_rfl) noPanic_any (by rfl) hHeld ?_ ?_
      rotate_left
      · intro wx hSw; clear hSw; go_simp <;> with_reducible rfl
      simp only [Act.put, List.setIfInBounds_toArray, List.set_cons_zero, List.set_cons_succ]
      refine take_yes 8 69 (v := ?_) rfl rfl (by kernel_rfl) (by kernel_rfl) (by kernel_rfl) noPanic_any (by rfl) hHeld ?_ ?_
      rotate_left
      · intro wx hSw; have z0 := cellH hSw.at_ 0; have z1 := cellH hSw.at_ 1; simp at z0 z1; clear hSw; go_simp <;> with_reducible rfl
      simp only [Act.put, List.setIfInBounds_toArray, List.set_cons_zero, List.set_cons_succ]
      refine take_yes 9 70 (v := ?_) rfl rfl (by kernel_rfl) (by kernel_rfl) (by kernel_rfl) noPanic_any (by rfl) hHeld ?_ ?_
      rotate_left
      · intro wx hSw; clear hSw; go_simp <;> with_reducible rfl
      simp only [Act.put, List.setIfInBounds_toArray, List.set_cons_zero, List.set_cons_succ]
      refine take_yes 10 71 (v := ?_) rfl rfl (by kernel_rfl) (by kernel_rfl) (by kernel_rfl) noPanic_any (by rfl) hHeld ?_ ?_
      rotate_left
      · intro wx hSw; have z0 := cellH hSw.at_ 0; have z1 := cellH hSw.at_ 1; simp at z0 z1; clear hSw; go_simp <;> with_reducible rfl
      simp only [Act.put, List.setIfInBounds_toArray, List.set_cons_zero, List.set_cons_succ]
      generalize hWd : wa.drew = W0 at *
      clear hWd hHeld
      refine one_readyH (i := 5) (by kernel_rfl) (wpOp_step rfl (fun KK hKK => ?_))
      have HKK := Lib.hid hKK
      clear hKK
      go_simp
      refine (lappend_at HG1.out.log HG1.out.low.size HG1.out.arm (by omega) s t (by omega) (by omega) (ofRef L') E' HCK.out).mono ?_
      rintro e W1 ⟨rfl, ⟨l1, st1, v1, hl1, hz1, hv1⟩, ho1, hb1⟩
      have HL1 := Lib.hid hl1
      have HZ1 := Lib.hid hz1
      have HR1 := Lib.hid (HG1.out.ref.frame ho1 (HG1.out.ref.apart HG1.out.log.plog HG1.out.nv))
      have HOP1 := Lib.hid (show OpC g0 s t a b W1 from ⟨heap_only ho1 HO1.out.at_ (by
        have h1 := HLT.out
        rintro (h | h | ⟨_, cs, tt, mm, h, h2⟩)
        · omega
        · have := h1.2.1 _ h; omega
        · rw [HO1.out.at_] at h
          injection h with h
          injection h with _ h
          rw [← h] at h2
          exact absurd h2 (by decide))⟩)
      have HB1 := Lib.hid (HG1.out.low.trans hb1)
      have NV1 := Lib.hid (show ∀ g, v1.ownBlock = some g → ¬ P g from fun g hg hq => by
        rcases hv1 g hg with h | h
        · exact HG1.out.nv g h hq
        · have := HG1.out.ref.lt g hq
          omega)
      have SZ := Lib.hid HG1.out.log.inv.sizes
      have HC := Lib.hid (show c.base = mb ∧ c.boot ≤ k + 1 ∧ ¬ P B ∧ ∀ i, P i → w.heap.size ≤ i from ⟨HG1.out.base, HG1.out.boot, HG1.out.nB, HG1.out.pb⟩)
      clear hl1 hz1 hv1 ho1 hb1 HG1 HO1
      refine HKK.out _ _ ⟨HOP1.out, ?_⟩
      clear HKK KK
      (try simp only [Act.put, List.setIfInBounds_toArray, List.set_cons_zero, List.set_cons_succ])
      refine one_readyH (i := 11) (by kernel_rfl) (wpOp_step rfl (fun KK hKK => ?_))
      have HKK := Lib.hid hKK
      clear hKK
      have RAP := Lib.hid (rappend_is HR1.out s t (by omega) (by omega) SZ.out.1 SZ.out.2.1 SZ.out.2.2.1 SZ.out.2.2.2.1 SZ.out.2.2.2.2.1 SZ.out.2.2.2.2.2.1 SZ.out.2.2.2.2.2.2)
      rw [← HLR.out] at RAP
      go_simp
      refine (RAP.out).mono ?_
      rintro e W2 ⟨rfl, ⟨u2, hr2⟩, ho2⟩
      have HR2 := Lib.hid (show RLogM W2 (growP P W1 W2) R L' u2 from hr2)
      have HL2 := Lib.hid (HL1.out.apart HR1.out HC.out.2.2.1 NV1.out ho2)
      have HOP2 := Lib.hid (show OpC g0 s t a b W2 from ⟨heap_only ho2 HOP1.out.at_ (fun q => by
        obtain ⟨cs, tt, h1, h2⟩ := HR1.out.type q
        rw [HOP1.out.at_] at h1
        injection h1 with h1
        injection h1 with _ h1
        rcases h2 with h2 | h2 <;> rw [h2] at h1 <;> exact absurd h1 (by decide))⟩)
      have HB2 := Lib.hid (HB1.out.trans (ho2.below HB1.out.size (fun i q => HC.out.2.2.2 i (twoB_in HR1.out q))))
      have HC2 := Lib.hid (show ¬ growP P W1 W2 B ∧ (∀ g, v1.ownBlock = some g → ¬ growP P W1 W2 g) ∧ ∀ i, growP P W1 W2 i → w.heap.size ≤ i from
        ⟨growP_not HC.out.2.2.1 HL1.out.lts.1, fun g hg => growP_not (NV1.out g hg) (HL1.out.lts.2 g hg), fun i hi => by
          rcases hi.1 with h | h
          · exact HC.out.2.2.2 i h
          · exact Nat.le_trans HB1.out.size h⟩)
      generalize growP P W1 W2 = P2 at *
      clear hr2 ho2 RAP HL1 HR1 HOP1 HB1 NV1 SZ HLT
      refine HKK.out _ _ ⟨HOP2.out, ?_⟩
      clear HKK KK
      refine held_more (S' := LowB W2) (fun W hW => ⟨later_at hW.low HOP2.out.at_⟩) _ _ _ _ ?_
      have hHeld : LowB W2 W2 := ⟨Below.refl _ _⟩
      have RG := Lib.hid (fun (W : World) (hW : LowB W2 W) => show W.cell? ⟨R, 0, none⟩ = some (.int .i64 L'.gen) by simpa using cellH (later_at hW.low HR2.out.at_) 0)
      have RA := Lib.hid (fun (W : World) (hW : LowB W2 W) => show W.cell? ⟨R, 4, none⟩ = some (.int .i64 L'.at_) by simpa using cellH (later_at hW.low HR2.out.at_) 4)
      have RL := Lib.hid (rec_len HL2.out.inv)
      refine take_yes 12 73 (v := ?_) rfl rfl (by kernel_rfl) (by kernel_rfl) (by kernel_rfl) noPanic_any (by rfl) hHeld ?_ ?_
      rotate_left
      · intro wx hSw; clear hSw; go_simp <;> with_reducible rfl
      simp only [Act.put, List.setIfInBounds_toArray, List.set_cons_zero, List.set_cons_succ]
      refine take_yes 13 74 (v := ?_) rfl rfl (by kernel_rfl) (by kernel_rfl) (by kernel_rfl) noPanic_any (by rfl) hHeld ?_ ?_
      rotate_left
      · intro wx hSw; clear hSw; go_simp <;> with_reducible rfl
      simp only [Act.put, List.setIfInBounds_toArray, List.set_cons_zero, List.set_cons_succ]
      refine take_yes 14 75 (v := ?_) rfl rfl (by kernel_rfl) (by kernel_rfl) (by kernel_rfl) noPanic_any (by rfl) hHeld ?_ ?_
      rotate_left
      · intro wx hSw; clear hSw; go_simp <;> with_reducible rfl
      simp only [Act.put, List.setIfInBounds_toArray, List.set_cons_zero, List.set_cons_succ]
      refine take_yes 15 76 (v := ?_) rfl rfl (by kernel_rfl) (by kernel_rfl) (by kernel_rfl) noPanic_any (by rfl) hHeld ?_ ?_
      rotate_left
      · intro wx hSw; clear hSw; go_simp <;> with_reducible rfl
      simp only [Act.put, List.setIfInBounds_toArray, List.set_cons_zero, List.set_cons_succ]
      refine take_yes 17 78 (v := ?_) rfl rfl (by kernel_rfl) (by kernel_rfl) (by kernel_rfl) noPanic_any (by rfl) hHeld ?_ ?_
      rotate_left
      · intro wx hSw; clear hSw; go_simp <;> with_reducible rfl
      simp only [Act.put, List.setIfInBounds_toArray, List.set_cons_zero, List.set_cons_succ]
      refine take_yes 19 80 (v := ?_) rfl rfl (by kernel_rfl) (by kernel_rfl) (by kernel_rfl) noPanic_any (by rfl) hHeld ?_ ?_
      rotate_left
      · intro wx hSw; clear hSw; go_simp <;> with_reducible rfl
      simp only [Act.put, List.setIfInBounds_toArray, List.set_cons_zero, List.set_cons_succ]
      refine one_readyH (i := 16) (by kernel_rfl) (wpOp_step rfl (fun KK hKK => ?_))
      have HKK := Lib.hid hKK
      clear hKK
      go_simp
      refine (pgen_is HL2.out.plog).mono ?_
      rintro e w3 ⟨rfl, hw3⟩
      subst hw3
      refine HKK.out _ _ ⟨hHeld, ?_⟩
      clear HKK KK
      (try simp only [Act.put, List.setIfInBounds_toArray, List.set_cons_zero, List.set_cons_succ])
      refine one_readyH (i := 18) (by kernel_rfl) (wpOp_step rfl (fun KK hKK => ?_))
      have HKK := Lib.hid hKK
      clear hKK
      go_simp
      refine (pbase_is HL2.out.plog).mono ?_
      rintro e w3 ⟨rfl, hw3⟩
      subst hw3
      refine HKK.out _ _ ⟨hHeld, ?_⟩
      clear HKK KK
      (try simp only [Act.put, List.setIfInBounds_toArray, List.set_cons_zero, List.set_cons_succ])
      refine one_readyH (i := 20) (by kernel_rfl) (wpOp_step rfl (fun KK hKK => ?_))
      have HKK := Lib.hid hKK
      clear hKK
      go_simp
      refine (precords_is HL2.out.plog (by have := RL.out; omega)).mono ?_
      rintro e W3 ⟨A6, c6, rfl, ht6, hb6, _⟩
      have SM := Lib.hid (refsame_is (c := c6) (HR2.out.below hb6).log (ofRef L').gen (ofRef L').bs ht6 (by have := RL.out; show (ofRef L').recs.length ≤ _; omega))
      rw [same_ref] at SM
      have hHeld3 : LowB W2 W3 := ⟨hb6⟩
      refine HKK.out _ _ ⟨hHeld3, ?_⟩
      clear HKK KK ht6 hb6
      (try simp only [Act.put, List.setIfInBounds_toArray, List.set_cons_zero, List.set_cons_succ])
      refine one_readyH (i := 21) (by kernel_rfl) (wpOp_step rfl (fun KK hKK => ?_))
      have HKK := Lib.hid hKK
      clear hKK
      go_simp
      refine (SM.out).mono ?_
      rintro e W4 ⟨rfl, hb7⟩
      have hHeld4 : LowB W2 W4 := LowB.keep _ _ hHeld3 hb7
      refine HKK.out _ _ ⟨hHeld4, ?_⟩
      clear HKK KK hb7 SM hHeld hHeld3
      (try simp only [Act.put, List.setIfInBounds_toArray, List.set_cons_zero, List.set_cons_succ])
      refine take_yes 22 83 (v := ?_) rfl rfl (by kernel_rfl) (by kernel_rfl) (by kernel_rfl) noPanic_any (by rfl) hHeld4 ?_ ?_
      rotate_left
      · intro wx hSw; clear hSw; go_simp <;> with_reducible rfl
      simp only [Act.put, List.setIfInBounds_toArray, List.set_cons_zero, List.set_cons_succ]
      refine take_yes 23 84 (v := ?_) rfl rfl (by kernel_rfl) (by kernel_rfl) (by kernel_rfl) noPanic_any (by rfl) hHeld4 ?_ ?_
      rotate_left
      · intro wx hSw; clear hSw; go_simp <;> with_reducible rfl
      simp only [Act.put, List.setIfInBounds_toArray, List.set_cons_zero, List.set_cons_succ]
      refine take_yes 24 85 (v := ?_) rfl rfl (by kernel_rfl) (by kernel_rfl) (by kernel_rfl) noPanic_any (by rfl) hHeld4 ?_ ?_
      rotate_left
      · intro wx hSw; clear hSw; go_simp <;> with_reducible rfl
      simp only [Act.put, List.setIfInBounds_toArray, List.set_cons_zero, List.set_cons_succ]
      refine take_yes 25 86 (v := ?_) rfl rfl (by kernel_rfl) (by kernel_rfl) (by kernel_rfl) noPanic_any (by rfl) hHeld4 ?_ ?_
      rotate_left
      · intro wx hSw; clear hSw; go_simp <;> with_reducible rfl
      simp only [Act.put, List.setIfInBounds_toArray, List.set_cons_zero, List.set_cons_succ]
      refine take_yes 26 87 (v := ?_) rfl rfl (by kernel_rfl) (by kernel_rfl) (by kernel_rfl) noPanic_any (by rfl) hHeld4 ?_ ?_
      rotate_left
      · intro wx hSw; clear hSw; go_simp <;> with_reducible rfl
      simp only [Act.put, List.setIfInBounds_toArray, List.set_cons_zero, List.set_cons_succ]
      refine take_yes 27 88 (v := ?_) rfl rfl (by kernel_rfl) (by kernel_rfl) (by kernel_rfl) noPanic_any (by rfl) hHeld4 ?_ ?_
      rotate_left
      · intro wx hSw; clear hSw; go_simp <;> with_reducible rfl
      simp only [Act.put, List.setIfInBounds_toArray, List.set_cons_zero, List.set_cons_succ]
      refine take_yes 28 89 (v := ?_) rfl rfl (by kernel_rfl) (by kernel_rfl) (by kernel_rfl) noPanic_any (by rfl) hHeld4 ?_ ?_
      rotate_left
      · intro wx hSw; have g0 := RG.out wx hSw; clear hSw; go_simp <;> with_reducible rfl
      simp only [Act.put, List.setIfInBounds_toArray, List.set_cons_zero, List.set_cons_succ]
      have HL4 := Lib.hid (HL2.out.later hHeld4.low)
      have HR4 := Lib.hid (HR2.out.below hHeld4.low)
      have HB4 := Lib.hid (below_step HB2.out hHeld4.low)
      have HS24 := Lib.hid hHeld4.low.size
      have HA4 := Lib.hid (show ∀ i, P2 i → i < W2.heap.size from HR2.out.lt)
      have HIV := Lib.hid HL2.out.inv
      have hat0 : 0 ≤ L'.at_ := HIV.out.a0
      have hat1 : L'.at_ ≤ 1 + (m : Int) := by
        have h1 : L'.at_ ≤ c.half := HIV.out.a1
        have h2 := HH.out
        omega
      have HRV := Lib.hid (show 0 < L'.gen → roomV c.half (ofRef L') = 1 + (m : Int) - L'.at_ from fun h => by
        unfold roomV
        rw [if_neg (show ¬ (ofRef L').gen = 0 by show ¬ L'.gen = 0; omega), HH.out]
        rfl)
      by_cases hgp : 0 < L'.gen
      · refine take_yes 29 90 (v := ?_) rfl rfl (by kernel_rfl) (by kernel_rfl) (by kernel_rfl) noPanic_any (by rfl) hHeld4 ?_ ?_
        rotate_left
        · intro wx hSw; clear hSw; go_simp <;> with_reducible rfl
        simp only [Act.put, List.setIfInBounds_toArray, List.set_cons_zero, List.set_cons_succ]
        refine take_yes 30 91 (v := ?_) rfl rfl (by kernel_rfl) (by kernel_rfl) (by kernel_rfl) noPanic_any (by rfl) hHeld4 ?_ ?_
        rotate_left
        · intro wx hSw; clear hSw; go_simp <;> with_reducible rfl
        simp only [Act.put, List.setIfInBounds_toArray, List.set_cons_zero, List.set_cons_succ]
        refine take_yes 31 92 (v := ?_) rfl rfl (by kernel_rfl) (by kernel_rfl) (by kernel_rfl) noPanic_any (by rfl) hHeld4 ?_ ?_
        rotate_left
        · intro wx hSw; clear hSw; go_simp <;> with_reducible rfl
        simp only [Act.put, List.setIfInBounds_toArray, List.set_cons_zero, List.set_cons_succ]
        refine take_yes 33 94 (v := ?_) rfl rfl (by kernel_rfl) (by kernel_rfl) (by kernel_rfl) noPanic_any (by rfl) hHeld4 ?_ ?_
        rotate_left
        · intro wx hSw; clear hSw; go_simp <;> with_reducible rfl
        simp only [Act.put, List.setIfInBounds_toArray, List.set_cons_zero, List.set_cons_succ]
        refine take_yes 34 95 (v := ?_) rfl rfl (by kernel_rfl) (by kernel_rfl) (by kernel_rfl) noPanic_any (by rfl) hHeld4 ?_ ?_
        rotate_left
        · intro wx hSw; clear hSw; go_simp <;> with_reducible rfl
        simp only [Act.put, List.setIfInBounds_toArray, List.set_cons_zero, List.set_cons_succ]
        refine take_yes 35 96 (v := ?_) rfl rfl (by kernel_rfl) (by kernel_rfl) (by kernel_rfl) noPanic_any (by rfl) hHeld4 ?_ ?_
        rotate_left
        · intro wx hSw; clear hSw; go_simp <;> with_reducible rfl
        simp only [Act.put, List.setIfInBounds_toArray, List.set_cons_zero, List.set_cons_succ]
        refine take_yes 36 97 (v := ?_) rfl rfl (by kernel_rfl) (by kernel_rfl) (by kernel_rfl) noPanic_any (by rfl) hHeld4 ?_ ?_
        rotate_left
        · intro wx hSw; clear hSw; go_simp <;> with_reducible rfl
        simp only [Act.put, List.setIfInBounds_toArray, List.set_cons_zero, List.set_cons_succ]
        refine take_yes 37 98 (v := ?_) rfl rfl (by kernel_rfl) (by kernel_rfl) (by kernel_rfl) noPanic_any (by rfl) hHeld4 ?_ ?_
        rotate_left
        · intro wx hSw; have g0 := RA.out wx hSw; clear hSw; go_simp <;> with_reducible rfl
        simp only [Act.put, List.setIfInBounds_toArray, List.set_cons_zero, List.set_cons_succ]
        refine take_yes 38 99 (v := ?_) rfl rfl (by kernel_rfl) (by kernel_rfl) (by kernel_rfl) noPanic_any (by rfl) hHeld4 ?_ ?_
        rotate_left
        · intro wx hSw; clear hSw; go_simp <;> with_reducible rfl
        simp only [Act.put, List.setIfInBounds_toArray, List.set_cons_zero, List.set_cons_succ]
        rw [show IntKind.i64.wrap (1 + (m : Int) - L'.at_) = 1 + (m : Int) - L'.at_ from by rw [IntKind.wrap_i64]; omega]
        refine one_readyH (i := 32) (by kernel_rfl) (wpOp_step rfl (fun KK hKK => ?_))
        have HKK := Lib.hid hKK
        clear hKK
        go_simp
        refine (lroom_is HL4.out.plog (r := 1 + (m : Int) - L'.at_) (HRV.out hgp)).mono ?_
        rintro e w3 ⟨rfl, hw3⟩
        subst hw3
        refine HKK.out _ _ ⟨hHeld4, ?_⟩
        clear HKK KK
        (try simp only [Act.put, List.setIfInBounds_toArray, List.set_cons_zero, List.set_cons_succ])
        refine take_yes 39 100 (v := ?_) rfl rfl (by kernel_rfl) (by kernel_rfl) (by kernel_rfl) noPanic_any (by rfl) hHeld4 ?_ ?_
        rotate_left
        · intro wx hSw; clear hSw; go_simp <;> with_reducible rfl
        simp only [Act.put, List.setIfInBounds_toArray, List.set_cons_zero, List.set_cons_succ]
        refine take_yes 40 101 (v := ?_) rfl rfl (by kernel_rfl) (by kernel_rfl) (by kernel_rfl) noPanic_any (by rfl) hHeld4 ?_ ?_
        rotate_left
        · intro wx hSw; clear hSw; go_simp <;> with_reducible rfl
        simp only [Act.put, List.setIfInBounds_toArray, List.set_cons_zero, List.set_cons_succ]
        refine take_yes 41 102 (v := ?_) rfl rfl (by kernel_rfl) (by kernel_rfl) (by kernel_rfl) noPanic_any (by rfl) hHeld4 ?_ ?_
        rotate_left
        · intro wx hSw; clear hSw; go_simp <;> with_reducible rfl
        simp only [Act.put, List.setIfInBounds_toArray, List.set_cons_zero, List.set_cons_succ]
        refine wpAnyH_done (by kernel_rfl) ?_ _
        refine NoPanic.normal ?_
        clear hHeld4 HL2 HR2 HOP2 HB2 RG RA
        obtain ⟨bt, hbt⟩ : ∃ bt : Int, bt = (k : Int) + 2 := ⟨_, rfl⟩
        have HI := Lib.hid (show InvP (k + 1) ⟨mb, 1 + (m : Int), bt, 0⟩ (ofRef L') st1 from by
          have h1 := HIV.out.again (b := bt) (by have := HC.out.2.1; show c.boot < bt; omega) (by omega)
          have h2 := HC.out.1
          have h3 := HH.out
          have h4 : ({ base := c.base, half := c.half, boot := bt, laid := 0 } : PCfg) = ⟨mb, 1 + (m : Int), bt, 0⟩ := by rw [h2, h3]
          rw [← h4]
          exact h1)
        go_wp2_with fail
        rw [← hbt]
        refine (lopen_is HL4.out.disk HI.out).mono ?_
        rintro e W5 ⟨B5, v5, rfl, hp5, hb5⟩
        have HP5 := Lib.hid hp5
        have HL5 := Lib.hid (HL4.out.later hb5)
        have HR5 := Lib.hid (HR4.out.below hb5)
        have HB5 := Lib.hid (below_step HB4.out hb5)
        have HN5 := Lib.hid (show W4.heap.size ≤ B5 ∧ ∀ g, v5.ownBlock = some g → W4.heap.size ≤ g from ⟨hp5.2.1, fun g hg => (own_type hp5.2.2 hg).1⟩)
        have HS4 := Lib.hid HB4.out.size
        clear hp5 hb5 HL4 HR4 HB4
        go_wp2_with fail
        refine (pgen_is HP5.out).mono ?_
        rintro e W6 ⟨rfl, hw6⟩
        subst hw6
        go_wp2_with fail
        refine (pbase_is HP5.out).mono ?_
        rintro e W6 ⟨rfl, hw6⟩
        subst hw6
        go_wp2_with fail
        refine (precords_is HP5.out (by have := RL.out; omega)).mono ?_
        rintro e W6 ⟨A7, c7, rfl, ht7, hb6, _⟩
        have SM := Lib.hid (refsame_is (c := c7) (HR5.out.below hb6).log (ofRef L').gen (ofRef L').bs ht7 (by have := RL.out; show (ofRef L').recs.length ≤ _; omega))
        rw [same_ref] at SM
        have HP6 := Lib.hid (HP5.out.later hb6)
        have HL6 := Lib.hid (HL5.out.later hb6)
        have HR6 := Lib.hid (HR5.out.below hb6)
        have HB6 := Lib.hid (below_step HB5.out hb6)
        clear ht7 hb6 HP5 HL5 HR5 HB5
        go_wp2_with fail
        refine (SM.out).mono ?_
        rintro e W7 ⟨rfl, hb7⟩
        have HP7 := Lib.hid (HP6.out.later hb7)
        have HL7 := Lib.hid (HL6.out.later hb7)
        have HR7 := Lib.hid (HR6.out.below hb7)
        have HB7 := Lib.hid (below_step HB6.out hb7)
        clear hb7 HP6 HL6 HR6 HB6 SM
        obtain ⟨rv, hrv⟩ : ∃ rv, rv = roomV c.half (ofRef L') := ⟨_, rfl⟩
        have HRM := Lib.hid hrv
        clear hrv
        go_wp2_with fail
        refine (lroom_is HP7.out (r := rv) (by rw [HRM.out, HH.out])).mono ?_
        rintro e W8 ⟨rfl, hw8⟩
        subst hw8
        go_wp2_with fail
        refine (lroom_is HL7.out.plog (r := rv) (by rw [HRM.out])).mono ?_
        rintro e W8 ⟨rfl, hw8⟩
        subst hw8
        have htm : Int.tmod (k : Int) 3 = (k : Int) % 3 := Int.tmod_eq_emod_of_nonneg (by omega)
        have HZ := Lib.hid (show PyS w mb c.half D (k + 1) B R { c with laid := l1 } (ofRef L') st1 v1 u2 P2 W7 from
          ⟨HL7.out, by rw [refOf_of HLH.out]; exact HR7.out, HC.out.1, rfl, by have := HC.out.2.1; show c.boot ≤ _; omega, HZ1.out, HC2.out.1, HC2.out.2.1, HC2.out.2.2, HB7.out⟩)
        have HY := Lib.hid (show PyS w mb c.half D (k + 1) B5 R ⟨mb, 1 + (m : Int), bt, 0⟩ (ofRef L') st1 v5 u2 P2 W7 from
          ⟨⟨HP7.out.mono HS4.out, HL7.out.disk, HI.out⟩, by rw [refOf_of HLH.out]; exact HR7.out, rfl, HH.out.symm, by show bt ≤ _; omega, HZ1.out, fun q => by have := HA4.out _ q; have := HN5.out.1; have := HS24.out; omega,
            fun g hg q => by have := HA4.out _ q; have := HN5.out.2 g hg; have := HS24.out; omega, HC2.out.2.2, HB7.out⟩)
        by_cases h3 : (k : Int) % 3 = 1
        · go_wp2_with fail
          go_roundw
          case rel => exact ⟨k + 1, B5, _, _, _, _, _, _, by omega, by go_num, rfl, HY.out⟩
          case measure => simp [intOf]; omega
        · have h3' : (k : Int) % 3 = 0 ∨ (k : Int) % 3 = 2 := by omega
          rcases h3' with h3' | h3'
          · clear h3
            go_wp2_with fail
            go_roundw
            case rel => exact ⟨k + 1, B, _, _, _, _, _, _, by omega, by go_num, rfl, HZ.out⟩
            case measure => simp [intOf]; omega
          · clear h3
            go_wp2_with fail
            go_roundw
            case rel => exact ⟨k + 1, B, _, _, _, _, _, _, by omega, by go_num, rfl, HZ.out⟩
            case measure => simp [intOf]; omega
      · have hg0 : L'.gen = 0 := by
          have := HIV.out.log.g0
          have h2 : 0 ≤ L'.gen := this
          omega
        refine take_yes 29 90 (v := ?_) rfl rfl (by kernel_rfl) (by kernel_rfl) (by kernel_rfl) noPanic_any (by rfl) hHeld4 ?_ ?_
        rotate_left
        · intro wx hSw; clear hSw; go_simp <;> with_reducible rfl
        simp only [Act.put, List.setIfInBounds_toArray, List.set_cons_zero, List.set_cons_succ]
        refine take_yes 30 91 (v := ?_) rfl rfl (by kernel_rfl) (by kernel_rfl) (by kernel_rfl) noPanic_any (by rfl) hHeld4 ?_ ?_
        rotate_left
        · intro wx hSw; clear hSw; go_simp <;> with_reducible rfl
        simp only [Act.put, List.setIfInBounds_toArray, List.set_cons_zero, List.set_cons_succ]
        refine take_no 31 92 rfl rfl (by kernel_rfl) (by kernel_rfl) (by kernel_rfl) noPanic_any (by rfl) hHeld4 ?_
        simp only [Act.put, List.setIfInBounds_toArray, List.set_cons_zero, List.set_cons_succ]
        refine take_no 32 93 rfl rfl (by kernel_rfl) (by kernel_rfl) (by kernel_rfl) noPanic_any (by rfl) hHeld4 ?_
        simp only [Act.put, List.setIfInBounds_toArray, List.set_cons_zero, List.set_cons_succ]
        refine take_no 33 94 rfl rfl (by kernel_rfl) (by kernel_rfl) (by kernel_rfl) noPanic_any (by rfl) hHeld4 ?_
        simp only [Act.put, List.setIfInBounds_toArray, List.set_cons_zero, List.set_cons_succ]
        refine take_no 34 95 rfl rfl (by kernel_rfl) (by kernel_rfl) (by kernel_rfl) noPanic_any (by rfl) hHeld4 ?_
        simp only [Act.put, List.setIfInBounds_toArray, List.set_cons_zero, List.set_cons_succ]
        refine take_no 35 96 rfl rfl (by kernel_rfl) (by kernel_rfl) (by kernel_rfl) noPanic_any (by rfl) hHeld4 ?_
        simp only [Act.put, List.setIfInBounds_toArray, List.set_cons_zero, List.set_cons_succ]
        refine take_no 36 97 rfl rfl (by kernel_rfl) (by kernel_rfl) (by kernel_rfl) noPanic_any (by rfl) hHeld4 ?_
        simp only [Act.put, List.setIfInBounds_toArray, List.set_cons_zero, List.set_cons_succ]
        refine take_no 37 98 rfl rfl (by kernel_rfl) (by kernel_rfl) (by kernel_rfl) noPanic_any (by rfl) hHeld4 ?_
        simp only [Act.put, List.setIfInBounds_toArray, List.set_cons_zero, List.set_cons_succ]
        refine take_no 38 99 rfl rfl (by kernel_rfl) (by kernel_rfl) (by kernel_rfl) noPanic_any (by rfl) hHeld4 ?_
        simp only [Act.put, List.setIfInBounds_toArray, List.set_cons_zero, List.set_cons_succ]
        refine take_no 39 100 rfl rfl (by kernel_rfl) (by kernel_rfl) (by kernel_rfl) noPanic_any (by rfl) hHeld4 ?_
        simp only [Act.put, List.setIfInBounds_toArray, List.set_cons_zero, List.set_cons_succ]
        refine take_yes 40 101 (v := ?_) rfl rfl (by kernel_rfl) (by kernel_rfl) (by kernel_rfl) noPanic_any (by rfl) hHeld4 ?_ ?_
        rotate_left
        · intro wx hSw; clear hSw; go_simp <;> with_reducible rfl
        simp only [Act.put, List.setIfInBounds_toArray, List.set_cons_zero, List.set_cons_succ]
        refine take_yes 41 102 (v := ?_) rfl rfl (by kernel_rfl) (by kernel_rfl) (by kernel_rfl) noPanic_any (by rfl) hHeld4 ?_ ?_
        rotate_left
        · intro wx hSw; clear hSw; go_simp <;> with_reducible rfl
        simp only [Act.put, List.setIfInBounds_toArray, List.set_cons_zero, List.set_cons_succ]
        refine wpAnyH_done (by kernel_rfl) ?_ _
        refine NoPanic.normal ?_
        clear hHeld4 HL2 HR2 HOP2 HB2 RG RA
        obtain ⟨bt, hbt⟩ : ∃ bt : Int, bt = (k : Int) + 2 := ⟨_, rfl⟩
        have HI := Lib.hid (show InvP (k + 1) ⟨mb, 1 + (m : Int), bt, 0⟩ (ofRef L') st1 from by
          have h1 := HIV.out.again (b := bt) (by have := HC.out.2.1; show c.boot < bt; omega) (by omega)
          have h2 := HC.out.1
          have h3 := HH.out
          have h4 : ({ base := c.base, half := c.half, boot := bt, laid := 0 } : PCfg) = ⟨mb, 1 + (m : Int), bt, 0⟩ := by rw [h2, h3]
          rw [← h4]
          exact h1)
        go_wp2_with fail
        rw [← hbt]
        refine (lopen_is HL4.out.disk HI.out).mono ?_
        rintro e W5 ⟨B5, v5, rfl, hp5, hb5⟩
        have HP5 := Lib.hid hp5
        have HL5 := Lib.hid (HL4.out.later hb5)
        have HR5 := Lib.hid (HR4.out.below hb5)
        have HB5 := Lib.hid (below_step HB4.out hb5)
        have HN5 := Lib.hid (show W4.heap.size ≤ B5 ∧ ∀ g, v5.ownBlock = some g → W4.heap.size ≤ g from ⟨hp5.2.1, fun g hg => (own_type hp5.2.2 hg).1⟩)
        have HS4 := Lib.hid HB4.out.size
        clear hp5 hb5 HL4 HR4 HB4
        go_wp2_with fail
        refine (pgen_is HP5.out).mono ?_
        rintro e W6 ⟨rfl, hw6⟩
        subst hw6
        go_wp2_with fail
        refine (pbase_is HP5.out).mono ?_
        rintro e W6 ⟨rfl, hw6⟩
        subst hw6
        go_wp2_with fail
        refine (precords_is HP5.out (by have := RL.out; omega)).mono ?_
        rintro e W6 ⟨A7, c7, rfl, ht7, hb6, _⟩
        have SM := Lib.hid (refsame_is (c := c7) (HR5.out.below hb6).log (ofRef L').gen (ofRef L').bs ht7 (by have := RL.out; show (ofRef L').recs.length ≤ _; omega))
        rw [same_ref] at SM
        have HP6 := Lib.hid (HP5.out.later hb6)
        have HL6 := Lib.hid (HL5.out.later hb6)
        have HR6 := Lib.hid (HR5.out.below hb6)
        have HB6 := Lib.hid (below_step HB5.out hb6)
        clear ht7 hb6 HP5 HL5 HR5 HB5
        go_wp2_with fail
        refine (SM.out).mono ?_
        rintro e W7 ⟨rfl, hb7⟩
        have HP7 := Lib.hid (HP6.out.later hb7)
        have HL7 := Lib.hid (HL6.out.later hb7)
        have HR7 := Lib.hid (HR6.out.below hb7)
        have HB7 := Lib.hid (below_step HB6.out hb7)
        clear hb7 HP6 HL6 HR6 HB6 SM
        obtain ⟨rv, hrv⟩ : ∃ rv, rv = roomV c.half (ofRef L') := ⟨_, rfl⟩
        have HRM := Lib.hid hrv
        clear hrv
        go_wp2_with fail
        refine (lroom_is HP7.out (r := rv) (by rw [HRM.out, HH.out])).mono ?_
        rintro e W8 ⟨rfl, hw8⟩
        subst hw8
        go_wp2_with fail
        refine (lroom_is HL7.out.plog (r := rv) (by rw [HRM.out])).mono ?_
        rintro e W8 ⟨rfl, hw8⟩
        subst hw8
        have htm : Int.tmod (k : Int) 3 = (k : Int) % 3 := Int.tmod_eq_emod_of_nonneg (by omega)
        have HZ := Lib.hid (show PyS w mb c.half D (k + 1) B R { c with laid := l1 } (ofRef L') st1 v1 u2 P2 W7 from
          ⟨HL7.out, by rw [refOf_of HLH.out]; exact HR7.out, HC.out.1, rfl, by have := HC.out.2.1; show c.boot ≤ _; omega, HZ1.out, HC2.out.1, HC2.out.2.1, HC2.out.2.2, HB7.out⟩)
        have HY := Lib.hid (show PyS w mb c.half D (k + 1) B5 R ⟨mb, 1 + (m : Int), bt, 0⟩ (ofRef L') st1 v5 u2 P2 W7 from
          ⟨⟨HP7.out.mono HS4.out, HL7.out.disk, HI.out⟩, by rw [refOf_of HLH.out]; exact HR7.out, rfl, HH.out.symm, by show bt ≤ _; omega, HZ1.out, fun q => by have := HA4.out _ q; have := HN5.out.1; have := HS24.out; omega,
            fun g hg q => by have := HA4.out _ q; have := HN5.out.2 g hg; have := HS24.out; omega, HC2.out.2.2, HB7.out⟩)
        by_cases h3 : (k : Int) % 3 = 1
        · go_wp2_with fail
          go_roundw
          case rel => exact ⟨k + 1, B5, _, _, _, _, _, _, by omega, by go_num, rfl, HY.out⟩
          case measure => simp [intOf]; omega
        · have h3' : (k : Int) % 3 = 0 ∨ (k : Int) % 3 = 2 := by omega
          rcases h3' with h3' | h3'
          · clear h3
            go_wp2_with fail
            go_roundw
            case rel => exact ⟨k + 1, B, _, _, _, _, _, _, by omega, by go_num, rfl, HZ.out⟩
            case measure => simp [intOf]; omega
          · clear h3
            go_wp2_with fail
            go_roundw
            case rel => exact ⟨k + 1, B, _, _, _, _, _, _, by omega, by go_num, rfl, HZ.out⟩
            case measure => simp [intOf]; omega
    · obtain rfl : k = n := by omega
      obtain ⟨Au, cu, eu, hTu⟩ := own_as HG.out.ref.own
      change u = .slice Au K.recs.length cu at eu
      subst eu
      have HTU := Lib.hid (show TextsAt wr Au K.recs from hTu)
      clear hTu hlt
      obtain ⟨N, hNN⟩ : ∃ N, N = (1 + m) + (1 + m) := ⟨_, rfl⟩
      have HNN := Lib.hid hNN
      have SE := Lib.hid (secs_is HG.out.log.disk (mb : Int) (1 + (m : Int)) N (by omega) (by omega) (by omega) (by omega))
      have hN1 : 1 ≤ N := by omega
      clear hNN
      go_wp2_with fail
      refine (SE.out).mono ?_
      rintro e W5 ⟨A5, c5, rfl, hrow, hb5⟩
      obtain ⟨A6, c6, e6, hT6⟩ := own_texts hrow (secL_len _ _ _).symm
      obtain ⟨q, cap, e7, hle⟩ : ∃ q cap, Value.slice A5 N c5 = .slice (some ⟨q, 0, none⟩) N cap ∧ N ≤ cap := by
        rcases hrow.2 with ⟨e, _⟩ | ⟨q, cap, cur, e, _, _, hle, _⟩
        · injection e with _ e
          omega
        · exact ⟨q, cap, e, hle⟩
      injection e6 with e6 _ e6c
      subst e6 e6c
      injection e7 with e7 _ e7c
      subst e7 e7c
      have hc1 : ((1 + m : Nat) : Int) = 1 + (m : Int) := by omega
      have OP := Lib.hid (refopen_is hT6 (1 + m) N HNN.out (secL_len _ _ _) hle (by omega) (by omega))
      have HC1 := Lib.hid hc1
      rw [hc1] at OP
      have HG5 := Lib.hid (HG.out.later hb5)
      have HT5 := Lib.hid (texts_later hb5 HTU.out)
      clear hrow hT6 hb5 hle hc1 HTU SE HG
      go_wp2_with fail
      refine (OP.out).mono ?_
      rintro e W6 ⟨R2, u6, o, rfl, ho, how⟩
      have hoK : o = K := by
        refine ref_opens (H := 1 + m) (N := N) HG5.out.log.inv (by rw [HC1.out]; exact HH.out) HNN.out ?_
        rw [HG5.out.base, HC1.out]
        exact ho
      rw [hoK] at how
      clear ho hoK OP
      have HG6 := Lib.hid (HG5.out.later how.low)
      have HT6 := Lib.hid (texts_later how.low HT5.out)
      have HX6 := Lib.hid (show RLogM W6 (fun i => i < W6.heap.size) R2 (refOf c.half K) u6 from
        ⟨fun _ hi => hi, (Array.getElem?_eq_some_iff.1 how.at_).1, by rw [HH.out]; exact how.at_, fun g hg => own_lt how.own hg, own_mono how.own (Nat.zero_le _)⟩)
      have RL := Lib.hid (rec_len HG6.out.log.inv)
      have SM := Lib.hid (fun (W : World) (hW : LowB W6 W) => refsame_is (c := cu) (HX6.out.below hW.low).log K.gen K.bs (texts_later hW.low HT6.out) (by show K.recs.length ≤ _; have := RL.out; omega))
      rw [same_refl] at SM
      have RG := Lib.hid (fun (W : World) (hW : LowB W6 W) => show W.cell? ⟨R, 0, none⟩ = some (.int .i64 K.gen) by simpa [refOf] using cellH (later_at hW.low HG6.out.ref.at_) 0)
      have RB := Lib.hid (fun (W : World) (hW : LowB W6 W) => show W.cell? ⟨R, 2, none⟩ = some (.string K.bs) by simpa [refOf] using cellH (later_at hW.low HG6.out.ref.at_) 2)
      have RR := Lib.hid (fun (W : World) (hW : LowB W6 W) => show W.cell? ⟨R, 3, none⟩ = some (.slice Au K.recs.length cu) by simpa [refOf] using cellH (later_at hW.low HG6.out.ref.at_) 3)
      have HB6 := Lib.hid HG6.out.low
      have HS0 := Lib.hid (show LowB W6 W6.drew from ⟨(Below.refl _ _).drew⟩)
      clear HG5 HG6 HT5 HT6 how
      go_wp2_with fail
      refine wp_region_kept (LowB W6) (by kernel_rfl) (by kernel_rfl) HS0.out ?_
      intro hne
      have f0 : ∀ x : HeldW (LowB W6), x.w.cell? ⟨R, 0, none⟩ = some (.int .i64 K.gen) := fun x => RG.out _ x.ok
      have f2 : ∀ x : HeldW (LowB W6), x.w.cell? ⟨R, 2, none⟩ = some (.string K.bs) := fun x => RB.out _ x.ok
      have f3 : ∀ x : HeldW (LowB W6), x.w.cell? ⟨R, 3, none⟩ = some (.slice Au K.recs.length cu) := fun x => RR.out _ x.ok
      repeat (go_big_quiet_step (first | (go_at_call 13; rename_i xx; exact kept_of LowB.keep (SM.out _ xx.ok))))
      refine wpQuiet_nil ?_
      rintro W7 ⟨⟨_, hq⟩, rfl⟩
      clear f0 f2 f3 hne
      have HB7 := Lib.hid (below_step HB6.out hq.low)
      clear hq
      go_wp2_with fail
      go_ret
      exact ⟨rfl, HB7.out⟩
theorem plays_walk (b0 h0 : Int) (hn : n ≤ 9223372036854775807) (hA : PopsAt w A n rc af ca cb) : Calls Try.prog 3 #[.int .i64 b0, .int .i64 h0, .slice A n c0] w fun e w' => e = .returned (.bool true) ∧ Below w.heap.size w w' := by
  by_cases hf : fewOk n rc af
  · exact plays_good b0 h0 hA hf
  · exact plays_long b0 h0 hA hn hf
end
end Go.Proofs.Ytbdgmddlghhkjaa
