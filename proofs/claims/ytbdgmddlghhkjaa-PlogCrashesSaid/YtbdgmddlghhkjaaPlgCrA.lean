/-
  The law PlogCrashes, walked. No conditions but how the arguments lie in memory.
-/
import Derived.Test.YtbdgmddlghhkjaaPlgY
namespace Go.Proofs.Ytbdgmddlghhkjaa
open Go.RowKit

section
variable {w : World} {A : Option Addr} {n c0 : Nat} {rc af : Nat → ByteArray} {ca cb : Nat → Int}

set_option maxHeartbeats 1000000 in
set_option maxRecDepth 100000 in
theorem crashes_long (h0 : Int) (hA : PopsAt w A n rc af ca cb) (hn : n ≤ 9223372036854775807) (hf : ¬ fewOk n rc af) : Calls Try.prog 4 #[.int .i64 h0, .slice A n c0] w fun e w' => e = .returned (.bool true) ∧ Below w.heap.size w w' := by
  obtain ⟨m, hm, hm30⟩ := at_count30 h0
  have HA := Lib.hid hA
  have HF := Lib.hid hf
  clear hA hf
  go_enter Try.func4, Try.ntmps4
  go_wp2_with fail
  refine (awake_true _).mono ?_
  rintro e w1 ⟨rfl, hb1⟩
  go_wp2_with fail
  refine (few_is (HA.out.later hb1) hn).mono ?_
  rintro e w2 ⟨⟨b, rfl, hb⟩, hb2⟩
  obtain rfl : b = false := by
    cases b
    · rfl
    · exact absurd (hb rfl) HF.out
  have hB := below_step hb1 hb2
  clear hb1 hb2 hb
  go_wp2_with fail
  refine (awake_true _).mono ?_
  rintro e w3 ⟨rfl, hb3⟩
  have hB2 := below_step hB hb3
  clear hb3 hB
  go_wp2_with fail
  go_ret
  exact ⟨rfl, hB2⟩

/-- What is held between the calls. -/
structure CrS (w : World) (half : Int) (D k B R : Nat) (c : PCfg) (K : LogV) (st : Dk) (v u : Value) (P : Nat → Prop) (W : World) : Prop where
  log : LogM W w.heap.size D B k c K st v
  ref : RLogM W P R (refOf half K) u
  base : c.base = 0
  half_ : c.half = half
  boot : c.boot ≤ k + 1
  nB : ¬ P B
  nv : ∀ g, v.ownBlock = some g → ¬ P g
  pb : ∀ i, P i → w.heap.size ≤ i
  low : Below w.heap.size w W

theorem CrS.later {half : Int} {D k B R : Nat} {c : PCfg} {K : LogV} {st : Dk} {v u : Value} {P : Nat → Prop} {W W' : World} (h : CrS w half D k B R c K st v u P W) (hb : Below W.heap.size W W') : CrS w half D k B R c K st v u P W' :=
  { h with log := h.log.later hb, ref := h.ref.below hb, low := below_step h.low hb }
set_option maxHeartbeats 4000000 in
set_option maxRecDepth 100000 in
theorem crashes_good (h0 : Int) (hA : PopsAt w A n rc af ca cb) (hf : fewOk n rc af) (hok : ∀ i, i < n → PopOk (rc i) (af i) (ca i) (cb i)) : Calls Try.prog 4 #[.int .i64 h0, .slice A n c0] w fun e w' => e = .returned (.bool true) ∧ Below w.heap.size w w' := by
  obtain ⟨m, hm, hm30⟩ := at_count30 h0
  have HA := Lib.hid hA
  have HF := Lib.hid hf
  have HOK := Lib.hid hok
  have hn60 := hf.1
  have INV := Lib.hid (inv_new (n := 2 * (1 + m)) (b := 0) (half := 1 + (m : Int)) (boot := 1) (by omega) (by omega) (by omega) (by omega) (by omega) (by omega))
  have NEW := Lib.hid (fun W : World => dnew_yes (2 * (1 + m)) W (by omega) (by omega))
  rw [show ((2 * (1 + m) : Nat) : Int) = 2 * (1 + (m : Int)) by omega] at NEW
  have FEW := Lib.hid (fun (W : World) (hW : Below w.heap.size w W) => (few_is (c := c0) (hA.later hW) (by omega)).mono (fun e W' h => (show (e = .returned (.bool true) ∨ e = .returned (.bool false)) ∧ Below W.heap.size W W' from by
    obtain ⟨⟨b, h1, _⟩, h2⟩ := h
    refine ⟨?_, h2⟩
    cases b
    · exact .inr h1
    · exact .inl h1)))
  clear hA hf hok
  go_enter Try.func4, Try.ntmps4
  go_wp2_with fail
  refine (awake_true _).mono ?_
  rintro e w1 ⟨rfl, hb1⟩
  have HB1 := Lib.hid hb1
  clear hb1
  go_wp2_with fail
  refine (FEW.out _ HB1.out).mono ?_
  rintro e w2 ⟨he, hb2⟩
  have HB2 := Lib.hid (below_step HB1.out hb2)
  clear hb2 HB1
  rcases he with rfl | rfl
  rotate_left
  · go_wp2_with fail
    refine (awake_true _).mono ?_
    rintro e w3 ⟨rfl, hb3⟩
    have hB2 := below_step HB2.out hb3
    clear hb3
    go_wp2_with fail
    go_ret
    exact ⟨rfl, hB2⟩
  go_wp2_with fail
  refine (NEW.out _).mono ?_
  rintro e w3 ⟨D, rfl, hd3, hb3⟩
  have HD3 := Lib.hid (diskAt_mono hd3 HB2.out.size)
  have HB3 := Lib.hid (below_step HB2.out hb3)
  clear hd3 hb3 HB2 NEW FEW
  go_wp2_with fail
  refine (lopen_is HD3.out INV.out).mono ?_
  rintro e w4 ⟨B, v, rfl, hp4, hb4⟩
  have HB4 := Lib.hid (below_step HB3.out hb4)
  have HL4 := Lib.hid (LogM.mono hp4 HB3.out.size (diskAt_later HD3.out hb4) INV.out)
  clear hp4 hb4 HD3 HB3 INV
  have HBA := Lib.hid (show Below w4.heap.size w4 (w4.alloc (.cells #[.int .i64 0, .int .i64 (1 + (m : Int)), .string ⟨#[]⟩, .slice none 0 0, .int .i64 0] 37)) from (Below.refl _ _).alloc (Nat.le_refl _) _)
  have HS5 := Lib.hid (show CrS w (1 + (m : Int)) D 0 B w4.heap.size ⟨0, 1 + (m : Int), 1, 0⟩ noLog (newS (2 * (1 + m))) v (.slice none 0 0) (fun i => i = w4.heap.size) (w4.alloc (.cells #[.int .i64 0, .int .i64 (1 + (m : Int)), .string ⟨#[]⟩, .slice none 0 0, .int .i64 0] 37)) from
    ⟨HL4.out.later HBA.out, ⟨fun i hi => by subst hi; simp, rfl, made_at _ _, fun g hg => by simp [Value.ownBlock] at hg, World.ownsRow_nil _ _ _ _⟩, rfl, rfl, by show (1 : Int) ≤ 0 + 1; omega,
      fun e => by have := HL4.out.lts.1; omega, fun g hg e => by have := HL4.out.lts.2 g hg; omega, fun i hi => by subst hi; exact HB4.out.size, below_step HB4.out HBA.out⟩)
  clear HBA
  go_wp2_with fail
  generalize w4.alloc (.cells #[.int .i64 0, .int .i64 (1 + (m : Int)), .string ⟨#[]⟩, .slice none 0 0, .int .i64 0] 37) = w5 at *
  generalize w4.heap.size = R at *
  clear HL4 HB4
  obtain ⟨half, hhalf⟩ : ∃ half : Int, half = 1 + (m : Int) := ⟨_, rfl⟩
  rw [← hhalf] at HS5
  have HH := Lib.hid hhalf
  clear hhalf
  go_loopw [7, 9, 47] (fun a7 a9 i wr => ∃ (k B R : Nat) (c : PCfg) (K : LogV) (st : Dk) (v u : Value) (P : Nat → Prop), k ≤ n ∧ i = .int .i64 k ∧ a7 = .pointer (some ⟨B, 0, none⟩) ∧ a9 = .pointer (some ⟨R, 0, none⟩) ∧ CrS w half D k B R c K st v u P wr) (fun _ _ i _ => n - (intOf i).toNat)
  case atStart => exact ⟨0, B, R, _, _, _, _, _, _, Nat.zero_le _, rfl, rfl, rfl, HS5.out⟩
  case round =>
    clear HS5
    obtain ⟨k, B, R, c, K, st, v, u, P, hk, rfl, rfl, rfl, hG⟩ := hrel
    have hch := hG.half_
    subst hch
    have HG := Lib.hid hG
    clear hG
    by_cases hlt : k < n
    · obtain ⟨ad, e, hcell⟩ := HA.out (by omega)
      subst e
      obtain ⟨y0, y1, y2, y3⟩ := hcell k hlt
      have x0 := cell_later HG.out.low y0
      have x1 := cell_later HG.out.low y1
      have x2 := cell_later HG.out.low y2
      have x3 := cell_later HG.out.low y3
      obtain ⟨hs1, hs2⟩ := HF.out.2 k hlt
      have ok := HOK.out k hlt
      clear hcell y0 y1 y2 y3
      generalize rc k = s at x0 hs1 ok
      generalize af k = t at x1 hs2 ok
      generalize ca k = a at x2 ok
      generalize cb k = b at x3 ok
      have ha1 := ok.a1
      have hb0 := ok.b0
      have hb1 := ok.b1
      clear ok
      have HBA := Lib.hid (show Below wr.heap.size wr (wr.alloc (.cells #[.string s, .string t, .int .i64 a, .int .u64 b] 42)) from (Below.refl _ _).alloc (Nat.le_refl _) _)
      have HG1 := Lib.hid (HG.out.later HBA.out)
      have HO1 := Lib.hid (made_at wr (.cells #[.string s, .string t, .int .i64 a, .int .u64 b] 42))
      have HLT := Lib.hid (show B < wr.heap.size ∧ (∀ g, v.ownBlock = some g → g < wr.heap.size) ∧ ∀ i, P i → i < wr.heap.size from ⟨HG.out.log.lts.1, HG.out.log.lts.2, HG.out.ref.lt⟩)
      clear HBA HG
      go_wp2_with fail
      generalize wr.alloc (.cells #[.string s, .string t, .int .i64 a, .int .u64 b] 42) = wa at *
      generalize wr.heap.size = g0 at *
      refine (darm_is HG1.out.log.disk a b ha1 hb0 hb1).mono ?_
      rintro e w6 ⟨rfl, hd6, ho6⟩
      have HL6 := Lib.hid (HG1.out.log.armed a b hd6 (HG1.out.log.plog.onlyT ho6))
      have HR6 := Lib.hid (HG1.out.ref.onlyT ho6)
      have HO6 := Lib.hid (keep_type ho6 HO1.out (by decide))
      have HB6 := Lib.hid (HG1.out.low.trans (ho6.below HG1.out.low.size))
      have HC := Lib.hid (show c.base = 0 ∧ c.half = c.half ∧ c.boot ≤ k + 1 ∧ ¬ P B ∧ (∀ g, v.ownBlock = some g → ¬ P g) ∧ ∀ i, P i → w.heap.size ≤ i from ⟨HG1.out.base, HG1.out.half_, HG1.out.boot, HG1.out.nB, HG1.out.nv, HG1.out.pb⟩)
      clear hd6 ho6 HG1 HO1 x0 x1 x2 x3
      have APP := Lib.hid (app_step HL6.out.inv (diskAt_ok HL6.out.disk).armed0 (by omega : k < 400) s t)
      have CALL := Lib.hid (lappend_is HL6.out HB6.out.size s t (by omega) (by omega))
      have SZ := Lib.hid HL6.out.inv.sizes
      have RL := Lib.hid (rec_len HL6.out.inv)
      generalize appP c K (armS st a b) s t = O at APP CALL
      obtain ⟨Oe, Ol, OK, Os⟩ := O
      have hsn := same_not (L := refOf c.half K) (rec := s) (after := t)
      obtain ⟨LR, hLR⟩ : ∃ LR, LR = appendR (refOf c.half K) s t := ⟨_, rfl⟩
      rw [← hLR] at APP hsn
      have HLR := Lib.hid hLR
      clear hLR
      obtain ⟨L', E'⟩ := LR
      simp only at APP CALL hsn
      have HSN := Lib.hid hsn
      clear hsn
      have z0 := cellH HO6.out 0
      have z1 := cellH HO6.out 1
      simp at z0 z1
      go_wp2_with fail
      refine (CALL.out).mono ?_
      rintro e w7 ⟨rfl, hd7, ⟨v7, hp7, hv7⟩, ho7⟩
      have HD7 := Lib.hid hd7
      have HP7 := Lib.hid hp7
      have HR7 := Lib.hid (HR6.out.frame ho7 (HR6.out.apart HL6.out.plog HC.out.2.2.2.2.1))
      have HO7 := Lib.hid (heap_only ho7 HO6.out (by
        have h1 := HLT.out
        rintro (h | h | ⟨_, cs, tt, mm, h, h2⟩)
        · omega
        · have := h1.2.1 _ h; omega
        · rw [HO6.out] at h
          injection h with h
          injection h with _ h
          rw [← h] at h2
          exact absurd h2 (by decide)))
      have HB7 := Lib.hid (HB6.out.trans (HL6.out.low ho7 HB6.out.size))
      have NV7 := Lib.hid (show ∀ g, v7.ownBlock = some g → ¬ P g from fun g hg hq => by
        rcases hv7 g hg with h | h
        · exact HC.out.2.2.2.2.1 g h hq
        · have := HR6.out.lt g hq
          omega)
      clear hd7 hp7 hv7 ho7 CALL HL6 HR6 HO6 HB6 z0 z1
      go_wp2_with fail
      refine (refcopy_is HR7.out (by show K.recs.length ≤ _; have := RL.out; omega)).mono ?_
      rintro e w8 ⟨R2, u2, rfl, hr8, hb8⟩
      have HC8 := Lib.hid hr8
      have HD8 := Lib.hid (diskAt_later HD7.out hb8)
      have HP8 := Lib.hid (HP7.out.later hb8)
      have HR8 := Lib.hid (HR7.out.below hb8)
      have HO8 := Lib.hid (later_at hb8 HO7.out)
      have HB8 := Lib.hid (below_step HB7.out hb8)
      have HP78 := Lib.hid (show ∀ i, P i → i < w7.heap.size from HR7.out.lt)
      have HS78 := Lib.hid hb8.size
      have HS7 := Lib.hid HB7.out.size
      clear hr8 hb8 HD7 HP7 HR7 HO7 HB7
      have z0 := cellH HO8.out 0
      have z1 := cellH HO8.out 1
      simp at z0 z1
      have RAP := Lib.hid (rappend_is HR8.out s t (by omega) (by omega) SZ.out.1 SZ.out.2.1 SZ.out.2.2.1 SZ.out.2.2.2.1 SZ.out.2.2.2.2.1 SZ.out.2.2.2.2.2.1 SZ.out.2.2.2.2.2.2)
      rw [← HLR.out] at RAP
      go_wp2_with fail
      refine (RAP.out).mono ?_
      rintro e w9 ⟨rfl, ⟨u9, hr9⟩, ho9⟩
      have HR9 := Lib.hid hr9
      have HD9 := Lib.hid (diskAt_ref HD8.out HR8.out ho9)
      have HP9 := Lib.hid (HP8.out.frame ho9 (fun q => HC.out.2.2.2.1 (twoB_in HR8.out q)) (fun g hg q => NV7.out g hg (twoB_in HR8.out q)))
      have HC9 := Lib.hid (HC8.out.newer HP78.out HR8.out ho9)
      have HB9 := Lib.hid (HB8.out.trans (ho9.below HB8.out.size (fun i q => HC.out.2.2.2.2.2 i (twoB_in HR8.out q))))
      have HS89 := Lib.hid ho9.size
      have HLT8 := Lib.hid (show B < w8.heap.size ∧ ∀ g, v7.ownBlock = some g → g < w8.heap.size from ⟨HP8.out.blt, HP8.out.vlt⟩)
      have HS8 := Lib.hid HB8.out.size
      clear hr9 ho9 RAP HD8 HP8 HR8 HO8 HB8 HC8 z0 z1 SZ
      rcases APP.out with ⟨hne, hE, hK, hh, _, hi⟩ | ⟨hE, hE2, hh, _, K2, hK2, hi⟩
      · change Oe ≠ 5 at hne
        change Oe = E' at hE
        subst hE
        have HI := Lib.hid hi
        have HK := Lib.hid hK
        have HHH := Lib.hid hh
        clear hi hK hh APP HSN
        go_wp2_with fail
        refine (darm_is HD9.out 0 0 (by omega) (by omega) (by omega)).mono ?_
        rintro e w10 ⟨rfl, hd10, ho10⟩
        have HS10 := Lib.hid (show CrS w c.half D (k + 1) B R { c with laid := Ol } OK (armS Os 0 0) v7 u9 (growP P w8 w9) w10 from
          ⟨⟨HP9.out.onlyT ho10, hd10, HI.out.arm 0 0⟩, by rw [HK.out, refOf_of HHH.out]; exact HR9.out.onlyT ho10, HC.out.1, rfl, by have := HC.out.2.2.1; show c.boot ≤ _; omega,
            growP_not HC.out.2.2.2.1 HLT8.out.1, fun g hg => growP_not (NV7.out g hg) (HLT8.out.2 g hg), fun i hi => by
              rcases hi.1 with h | h
              · exact HC.out.2.2.2.2.2 i h
              · exact Nat.le_trans HS8.out h, HB9.out.trans (ho10.below HB9.out.size)⟩)
        clear hd10 ho10 HD9 HP9 HR9 HC9 HB9
        go_wp2_with fail
        go_roundw
        case rel => exact ⟨k + 1, B, R, _, _, _, _, _, _, by omega, by go_num, rfl, rfl, HS10.out⟩
        case measure => simp [intOf]; omega
      · change Oe = 5 at hE
        change E' = 0 at hE2
        subst hE
        subst hE2
        change L'.half = c.half at hh
        change K2 = K ∨ K2 = ofRef L' at hK2
        have hbt : ∃ bt : Int, bt = (k : Int) + 2 := ⟨_, rfl⟩
        obtain ⟨bt, hbt⟩ := hbt
        have HI := Lib.hid (show InvP (k + 1) ⟨0, 1 + (m : Int), bt, 0⟩ K2 (startS Os) from by
          have h1 := hi bt (by have := HC.out.2.2.1; omega) (by omega)
          have h2 := HC.out.1
          have h3 := HH.out
          have h4 : ({ c with boot := bt, laid := 0 } : PCfg) = ⟨0, 1 + (m : Int), bt, 0⟩ := by rw [h2, h3]
          rw [← h4]
          exact h1)
        have HK2 := Lib.hid hK2
        have HHH := Lib.hid hh
        have HS0 := Lib.hid (HSN.out rfl)
        clear hi hK2 hh APP HSN
        go_wp2_with fail
        refine (dstart_is HD9.out).mono ?_
        rintro e w10 ⟨rfl, hd10, ho10⟩
        have HD10 := Lib.hid hd10
        have HR10 := Lib.hid (HR9.out.onlyT ho10)
        have HC10 := Lib.hid (HC9.out.onlyT ho10)
        have HB10 := Lib.hid (HB9.out.trans (ho10.below HB9.out.size))
        have HS910 := Lib.hid ho10.size
        clear hd10 ho10 HD9 HP9 HR9 HC9
        go_wp2_with fail
        rw [← hbt]
        refine (lopen_is HD10.out HI.out).mono ?_
        rintro e w11 ⟨B5, v5, rfl, hp11, hb11⟩
        have HP11 := Lib.hid hp11
        have HD11 := Lib.hid (diskAt_later HD10.out hb11)
        have HR11 := Lib.hid (HR10.out.below hb11)
        have HC11 := Lib.hid (HC10.out.below hb11)
        have HB11 := Lib.hid (below_step HB10.out hb11)
        have HBS := Lib.hid (show w9.heap.size ≤ w10.heap.size ∧ w10.heap.size ≤ B5 ∧ ∀ g, v5.ownBlock = some g → w10.heap.size ≤ g from ⟨HS910.out, hp11.2.1, fun g hg => (own_type hp11.2.2 hg).1⟩)
        have RL2 := Lib.hid (rec_len HI.out)
        have HRL := Lib.hid (show (ofRef L').recs.length ≤ 100000 → L'.recs.length ≤ 100000 from id)
        have HS10 := Lib.hid HB10.out.size
        clear hp11 hb11 HD10 HR10 HC10 HB10 HS910
        go_wp2_with fail
        refine (pgen_is HP11.out).mono ?_
        rintro e w12 ⟨rfl, hw12⟩
        subst hw12
        go_wp2_with fail
        refine (pbase_is HP11.out).mono ?_
        rintro e w12 ⟨rfl, hw12⟩
        subst hw12
        go_wp2_with fail
        refine (precords_is HP11.out (by have := RL2.out; omega)).mono ?_
        rintro e w12 ⟨A6, c6, rfl, ht6, hb12, _⟩
        have HT12 := Lib.hid ht6
        have HP12 := Lib.hid (HP11.out.later hb12)
        have HD12 := Lib.hid (diskAt_later HD11.out hb12)
        have HR12 := Lib.hid (HR11.out.below hb12)
        have HC12 := Lib.hid (HC11.out.below hb12)
        have HB12 := Lib.hid (below_step HB11.out hb12)
        clear ht6 hb12 HP11 HD11 HR11 HC11 HB11
        rcases HK2.out with hk2 | hk2
        · subst hk2
          have SM := Lib.hid (refsame_is (c := c6) HC12.out.log K2.gen K2.bs HT12.out (by show K2.recs.length ≤ _; have := RL2.out; omega))
          rw [same_refl] at SM
          go_wp2_with fail
          refine (SM.out).mono ?_
          rintro e w13 ⟨rfl, hb13⟩
          have HP13 := Lib.hid (HP12.out.later hb13)
          have HD13 := Lib.hid (diskAt_later HD12.out hb13)
          have HX13 := Lib.hid (HC12.out.below hb13)
          have HB13 := Lib.hid (below_step HB12.out hb13)
          clear hb13 HP12 HD12 HR12 HC12 HB12 HT12 SM
          go_wp2_with fail
          refine (pgen_is HP13.out).mono ?_
          rintro e w14 ⟨rfl, hw14⟩
          subst hw14
          go_wp2_with fail
          refine (pbase_is HP13.out).mono ?_
          rintro e w14 ⟨rfl, hw14⟩
          subst hw14
          go_wp2_with fail
          refine (precords_is HP13.out (by have := RL2.out; omega)).mono ?_
          rintro e w14 ⟨A7, c7, rfl, ht7, hb14, _⟩
          have HP14 := Lib.hid (HP13.out.later hb14)
          have HD14 := Lib.hid (diskAt_later HD13.out hb14)
          have HX14 := Lib.hid (HX13.out.below hb14)
          have HB14 := Lib.hid (below_step HB13.out hb14)
          have SM := Lib.hid (refsame_is (c := c7) HX14.out.log K2.gen K2.bs ht7 (by show K2.recs.length ≤ _; have := RL2.out; omega))
          rw [same_refl] at SM
          clear ht7 hb14 HP13 HD13 HX13 HB13
          go_wp2_with fail
          refine (SM.out).mono ?_
          rintro e w15 ⟨rfl, hb15⟩
          have HZ := Lib.hid (show CrS w c.half D (k + 1) B5 R2 ⟨0, 1 + (m : Int), bt, 0⟩ _ (startS Os) v5 u2 (fun i => w7.heap.size ≤ i ∧ i < w8.heap.size) w15 from
            ⟨⟨(HP14.out.later hb15).mono HS10.out, diskAt_later HD14.out hb15, HI.out⟩, HX14.out.below hb15, rfl, HH.out.symm, by show bt ≤ _; omega,
              fun q => by have := HBS.out; have := HS89.out; have := q.2; omega, fun g hg q => by have := HBS.out.2.2 g hg; have := HBS.out.1; have := HS89.out; have := q.2; omega, fun i hi => Nat.le_trans HS7.out hi.1, below_step HB14.out hb15⟩)
          clear hb15 HP14 HD14 HX14 HB14 SM
          go_wp2_with fail
          go_roundw
          case rel => exact ⟨k + 1, B5, R2, _, _, _, _, _, _, by omega, by go_num, rfl, rfl, HZ.out⟩
          case measure => simp [intOf]; omega
        · subst hk2
          have SM := Lib.hid (refsame_is (c := c6) HC12.out.log (ofRef L').gen (ofRef L').bs HT12.out (by show K.recs.length ≤ _; have := RL.out; omega))
          rw [HS0.out] at SM
          go_wp2_with fail
          refine (SM.out).mono ?_
          rintro e w13 ⟨rfl, hb13⟩
          have HP13 := Lib.hid (HP12.out.later hb13)
          have HD13 := Lib.hid (diskAt_later HD12.out hb13)
          have HX13 := Lib.hid (HR12.out.below hb13)
          have HB13 := Lib.hid (below_step HB12.out hb13)
          clear hb13 HP12 HD12 HR12 HC12 HB12 HT12 SM
          go_wp2_with fail
          refine (pgen_is HP13.out).mono ?_
          rintro e w14 ⟨rfl, hw14⟩
          subst hw14
          go_wp2_with fail
          refine (pbase_is HP13.out).mono ?_
          rintro e w14 ⟨rfl, hw14⟩
          subst hw14
          go_wp2_with fail
          refine (precords_is HP13.out (by have := RL2.out; omega)).mono ?_
          rintro e w14 ⟨A7, c7, rfl, ht7, hb14, _⟩
          have HP14 := Lib.hid (HP13.out.later hb14)
          have HD14 := Lib.hid (diskAt_later HD13.out hb14)
          have HX14 := Lib.hid (HX13.out.below hb14)
          have HB14 := Lib.hid (below_step HB13.out hb14)
          have SM := Lib.hid (refsame_is (c := c7) HX14.out.log (ofRef L').gen (ofRef L').bs ht7 (by have := RL2.out; have := HRL.out; omega))
          rw [same_ref] at SM
          clear ht7 hb14 HP13 HD13 HX13 HB13
          go_wp2_with fail
          refine (SM.out).mono ?_
          rintro e w15 ⟨rfl, hb15⟩
          have HZ := Lib.hid (show CrS w c.half D (k + 1) B5 R ⟨0, 1 + (m : Int), bt, 0⟩ (ofRef L') (startS Os) v5 u9 (growP P w8 w9) w15 from
            ⟨⟨(HP14.out.later hb15).mono HS10.out, diskAt_later HD14.out hb15, HI.out⟩, by rw [refOf_of HHH.out]; exact HX14.out.below hb15, rfl, HH.out.symm, by show bt ≤ _; omega,
              fun q => by have := HBS.out; have := q.2; omega, fun g hg q => by have := HBS.out.2.2 g hg; have := HBS.out.1; have := q.2; omega, fun i hi => by
                rcases hi.1 with h | h
                · exact HC.out.2.2.2.2.2 i h
                · exact Nat.le_trans HS8.out h, below_step HB14.out hb15⟩)
          clear hb15 HP14 HD14 HX14 HB14 SM
          go_wp2_with fail
          go_roundw
          case rel => exact ⟨k + 1, B5, R, _, _, _, _, _, _, by omega, by go_num, rfl, rfl, HZ.out⟩
          case measure => simp [intOf]; omega
    · obtain rfl : k = n := by omega
      have HB := Lib.hid HG.out.low
      clear HG
      go_wp2_with fail
      go_ret
      exact ⟨rfl, HB.out⟩
theorem crashes_walk (h0 : Int) (hn : n ≤ 9223372036854775807) (hA : PopsAt w A n rc af ca cb) (hok : ∀ i, i < n → PopOk (rc i) (af i) (ca i) (cb i)) : Calls Try.prog 4 #[.int .i64 h0, .slice A n c0] w fun e w' => e = .returned (.bool true) ∧ Below w.heap.size w w' := by
  by_cases hf : fewOk n rc af
  · exact crashes_good h0 hA hf hok
  · exact crashes_long h0 hA hn hf
end
end Go.Proofs.Ytbdgmddlghhkjaa
