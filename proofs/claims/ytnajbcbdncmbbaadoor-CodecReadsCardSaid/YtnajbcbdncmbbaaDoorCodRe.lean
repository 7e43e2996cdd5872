/-
  The law CodecReads, walked. No conditions but how the argument lies in memory, and what the package-level variables hold.
-/
import Derived.Test.YtnajbcbdncmbbaaDoorCodM
namespace Go.Proofs.YtnajbcbdncmbbaaDoor
open Go.RowKit

/-- What is held between two calls: both Readers stand alike. -/
structure RdI (w : World) (R Q : Nat) (S : ByteArray) (b : Bool) (W : World) : Prop where
  rd : RdAt W R S b
  ref : RefRd W Q S b
  size : S.size ≤ 1000
  ne : R ≠ Q
  low : Below w.heap.size w W
theorem RdI.below {w W V : World} {R Q : Nat} {S : ByteArray} {b : Bool} (h : RdI w R Q S b W) (hb : Below W.heap.size W V) : RdI w R Q S b V :=
  ⟨h.rd.below hb, h.ref.only (Only1.of_below (R := R) hb) (Ne.symm h.ne), h.size, h.ne, below_step h.low hb⟩
section
variable {w : World} {A : Option Addr} {n c : Nat} {op : Nat → COp} {s : ByteArray}
set_option maxHeartbeats 4000000 in
set_option maxRecDepth 100000 in
theorem reads_true (hV : VarsAt w) (hA : CopsAt w A n op) (hn : n ≤ 9223372036854775807) (hok : ∀ i, i < n → (op i).Ok) :
    Calls Tryd.prog 4 #[.string s, .slice A n c] w fun e w' => e = .returned (.bool true) ∧ Below w.heap.size w w' := by
  have HA := Lib.hid hA
  have HV := Lib.hid hV
  have HOK := Lib.hid hok
  clear hA hV hok
  go_enter Tryd.func4, Tryd.ntmps4
  go_wp2_with fail
  refine (awake_true HV.out).mono ?_
  rintro e w1 ⟨rfl, hb1⟩
  by_cases hs : 1000 < s.size
  · go_wp2_with fail
    refine (awake_true (HV.out.later hb1)).mono ?_
    rintro e w2 ⟨rfl, hb2⟩
    have HB := Lib.hid (below_step hb1 hb2)
    clear hb1 hb2
    go_wp2_with fail
    go_ret
    exact ⟨rfl, HB.out⟩
  have HB1 := Lib.hid hb1
  clear hb1
  go_wp2_with fail
  refine (few_is (HA.out.later HB1.out) hn).mono ?_
  rintro e w2 ⟨⟨b, rfl, hfew⟩, hb2⟩
  have HB2 := Lib.hid (below_step HB1.out hb2)
  clear hb2 HB1
  cases b with
  | false =>
    go_wp2_with fail
    refine (awake_true (HV.out.later HB2.out)).mono ?_
    rintro e w3 ⟨rfl, hb3⟩
    have HB := Lib.hid (below_step HB2.out hb3)
    clear hb3
    go_wp2_with fail
    go_ret
    exact ⟨rfl, HB.out⟩
  | true =>
    obtain ⟨hn100, hlen⟩ := hfew rfl
    have HLEN := Lib.hid hlen
    clear hfew hlen
    go_wp2_with fail
    refine (new_is s _).mono ?_
    rintro e w3 ⟨R, rfl, hR0, hR, hb3⟩
    have HB3 := Lib.hid (below_step HB2.out hb3)
    have HR3 := Lib.hid hR
    have hRlt := RdAt.low hR
    have hRl : w.heap.size ≤ R := Nat.le_trans HB2.out.size hR0
    have hs2 : decide ((1000 : Int) < (s.size : Int)) = false := decide_eq_false (by omega)
    have hsz : s.size ≤ 1000 := by omega
    have HRF := Lib.hid (show RefRd (w3.alloc (.cells #[.string s, .bool false] 45)) w3.heap.size s false by
      show (w3.heap.push _)[w3.heap.size]? = _
      rw [Array.getElem?_push, if_pos rfl])
    have HB4 := Lib.hid (HB3.out.alloc HB3.out.size (.cells #[.string s, .bool false] 45))
    have hQl : w.heap.size ≤ w3.heap.size := HB3.out.size
    have HR4 := Lib.hid (RdAt.only hR (Only1.of_below (R := w3.heap.size) ((Below.refl _ w3).alloc (Nat.le_refl _) (.cells #[.string s, .bool false] 45))) (by omega))
    have hRQ : R ≠ w3.heap.size := by omega
    clear hb3 hR hR0 HB2 HR3
    go_wp2_with fail
    generalize w3.alloc (.cells #[.string s, .bool false] 45) = w4 at *
    generalize w3.heap.size = Q at *
    have HI := Lib.hid (show RdI w R Q s false w4 from ⟨HR4.out, HRF.out, hsz, hRQ, HB4.out⟩)
    have hRl' := hRl
    clear hs2 hs hsz hRlt HRF HR4 HB4 HB3
    go_loopw [30] (fun i wr => ∃ (k : Nat) (S : ByteArray) (b : Bool), k ≤ n ∧ i = .int .i64 k ∧ RdI w R Q S b wr) (fun i _ => n - (intOf i).toNat)
    case atStart => exact ⟨0, s, false, Nat.zero_le _, rfl, HI.out⟩
    case round =>
      obtain ⟨k, S, b, hk, rfl, hI⟩ := hrel
      clear HI
      have HI := Lib.hid hI
      clear hI
      by_cases hlt : k < n
      · obtain ⟨ad, e, hcell⟩ := HA.out (by omega)
        subst e
        obtain ⟨y0, y1, y2, y3, y4, y5, y6⟩ := hcell k hlt
        have x0 := cell_later HI.out.low y0
        have x1 := cell_later HI.out.low y1
        have x2 := cell_later HI.out.low y2
        have x3 := cell_later HI.out.low y3
        have x4 := cell_later HI.out.low y4
        have x5 := cell_later HI.out.low y5
        have x6 := cell_later HI.out.low y6
        clear hcell y0 y1 y2 y3 y4 y5 y6
        have HQ := Lib.hid (HOK.out k hlt)
        generalize op k = q at x0 x1 x2 x3 x4 x5 x6 HQ
        obtain ⟨qk, qn, qlo, qhi, qs, qa, qb⟩ := q
        simp only at x0 x1 x2 x3 x4 x5 x6
        have HI1 := Lib.hid (HI.out.below ((Below.refl _ wr).alloc (Nat.le_refl _) (.cells #[.int .i64 qk, .int .i64 qn, .int .i64 qlo, .int .i64 qhi, .string qs, .int .i64 qa, .int .u16 qb] 32)))
        have HO1 := Lib.hid (made_at wr (.cells #[.int .i64 qk, .int .i64 qn, .int .i64 qlo, .int .i64 qhi, .string qs, .int .i64 qa, .int .u16 qb] 32))
        have hOR : wr.heap.size ≠ R := by have := RdAt.low HI.out.rd; omega
        have hOQ : wr.heap.size ≠ Q := by have := (Array.getElem?_eq_some_iff.1 HI.out.ref).1; omega
        have hne := HI.out.ne
        have hsz := HI.out.size
        by_cases k1 : qk = 1
        · subst k1
          obtain ⟨r, hr⟩ := takes_some (bl S) qlo qhi
          have HT := Lib.hid hr
          clear hr
          have HI2 := Lib.hid (HI1.out.below (Below.refl _ _).drew)
          have y2 := (cellH HO1.out 2).trans (show _ = some (Value.int .i64 qlo) from rfl)
          have y3 := (cellH HO1.out 3).trans (show _ = some (Value.int .i64 qhi) from rfl)
          go_wp2_with fail
          clear x0 x1 x2 x3 x4 x5 x6 HI HI1
          go_region_held3 (fun W => W.cell? ⟨wr.heap.size, 2, none⟩ = some (.int .i64 qlo) ∧ W.cell? ⟨wr.heap.size, 3, none⟩ = some (.int .i64 qhi) ∧ W.heap[wr.heap.size]? = some (.cells #[.int .i64 1, .int .i64 qn, .int .i64 qlo, .int .i64 qhi, .string qs, .int .i64 qa, .int .u16 qb] 32 (0, 0)))
            (first | exact ⟨y2, y3, HO1.out⟩ | exact ⟨z2, z3, hh5.out⟩)
            (first
              | (go_at_call 17; refine (int_is HI2.out.rd (HV.out.later HI2.out.low) _ _ r HT.out (by omega)).mono ?_; rintro e w5 ⟨rfl, hd5, ho5⟩; have hh5 := Lib.hid (ho5.at HO1.out hOR); have z2 := cellH hh5.out 2; have z3 := cellH hh5.out 3; simp at z2 z3; have HF5 := Lib.hid (HI2.out.ref.only ho5 (Ne.symm hne)); have HD5 := Lib.hid hd5; have HL5 := Lib.hid (Only1.low HI2.out.low ho5 hRl); clear hd5 ho5)
              | (go_at_call 22; refine (refrint HF5.out _ _ r HT.out (by omega)).mono ?_; rintro e w6 ⟨rfl, hf6, ho6⟩; have HI6 := Lib.hid (show RdI w R Q (iS S b r) (iB b r) w6 from ⟨RdAt.only HD5.out ho6 hne, hf6, Nat.le_trans (iS_size HT.out) hsz, hne, Only1.low HL5.out ho6 hQl⟩); replace hh5 := Lib.hid (ho6.at hh5.out hOQ); clear z2 z3; have z2 := cellH hh5.out 2; have z3 := cellH hh5.out 3; simp at z2 z3; clear hf6 ho6))
          clear HO1 hh5 HF5 HD5 HL5 HI2 z2 z3 y2 y3
          generalize iV b r = v1
          generalize iS S b r = S2 at *
          generalize iB b r = b2 at *
          clear HT
          have y1 := cellH HI6.out.ref 1
          simp at y1
          have HK := Lib.hid (show (HoldS w6 [(⟨Q, 1, none⟩, .bool b2)] (RdI w R Q S2 b2)) w6.drew from ⟨cc y1 cn, HI6.out.below (Below.refl _ _).drew, (Below.refl _ _).drew⟩)
          have f1 : ∀ x : HeldW (HoldS w6 [(⟨Q, 1, none⟩, .bool b2)] (RdI w R Q S2 b2)), x.w.cell? ⟨Q, 1, none⟩ = some (.bool b2) := fun x => x.at_ 0 rfl
          cases b2 with
          | true =>
            go_wp2_with fail
            refine wp_region_kept _ (by kernel_rfl) (by kernel_rfl) HK.out ?_
            intro hne
            repeat (go_big_quiet_step (first | (go_at_call 20; rename_i xx; refine kept_of (HoldS.keep (fun _ _ h hb => h.below hb)) (rd_ok xx.ok.2.1.rd))))
            refine wpQuiet_nil ?_
            rintro w9 ⟨⟨_, hq⟩, rfl⟩
            obtain ⟨hcs, h9, hb9⟩ := hq
            clear f1 hne hcs hb9
            go_wp2_with fail
            go_roundw
            case rel => exact ⟨k + 1, S2, true, by omega, by go_num, h9⟩
            case measure => simp [intOf]; omega
          | false =>
            go_wp2_with fail
            refine wp_region_kept _ (by kernel_rfl) (by kernel_rfl) HK.out ?_
            intro hne
            repeat (go_big_quiet_step (first | (go_at_call 20; rename_i xx; refine kept_of (HoldS.keep (fun _ _ h hb => h.below hb)) (rd_ok xx.ok.2.1.rd))))
            refine wpQuiet_nil ?_
            rintro w9 ⟨⟨_, hq⟩, rfl⟩
            obtain ⟨hcs, h9, hb9⟩ := hq
            clear f1 hne hcs hb9
            go_wp2_with fail
            go_roundw
            case rel => exact ⟨k + 1, S2, false, by omega, by go_num, h9⟩
            case measure => simp [intOf]; omega
        · have b1 : (qk == 1) = false := by simpa using k1
          by_cases k2 : qk = 2
          · subst k2
            obtain ⟨r, hr⟩ := takes_some (bl S) 0 qhi
            have HT := Lib.hid hr
            clear hr
            have HI2 := Lib.hid (HI1.out.below (Below.refl _ _).drew)
            have y3 := (cellH HO1.out 3).trans (show _ = some (Value.int .i64 qhi) from rfl)
            go_wp2_with fail
            clear x0 x1 x2 x3 x4 x5 x6 HI HI1
            go_region_held3 (fun W => W.cell? ⟨wr.heap.size, 3, none⟩ = some (.int .i64 qhi) ∧ W.heap[wr.heap.size]? = some (.cells #[.int .i64 2, .int .i64 qn, .int .i64 qlo, .int .i64 qhi, .string qs, .int .i64 qa, .int .u16 qb] 32 (0, 0)))
              (first | exact ⟨y3, HO1.out⟩ | exact ⟨z3, hh5.out⟩)
              (first
                | (go_at_call 18; refine (text_is HI2.out.rd (HV.out.later HI2.out.low) _ r HT.out (by omega)).mono ?_; rintro e w5 ⟨rfl, hd5, ho5⟩; have hh5 := Lib.hid (ho5.at HO1.out hOR); have z3 := cellH hh5.out 3; simp at z3; have HF5 := Lib.hid (HI2.out.ref.only ho5 (Ne.symm hne)); have HD5 := Lib.hid hd5; have HL5 := Lib.hid (Only1.low HI2.out.low ho5 hRl); clear hd5 ho5)
                | (go_at_call 23; refine (refrtext HF5.out _ r HT.out (by omega)).mono ?_; rintro e w6 ⟨rfl, hf6, ho6⟩; have HI6 := Lib.hid (show RdI w R Q (tS S b r) (tB b r) w6 from ⟨RdAt.only HD5.out ho6 hne, hf6, Nat.le_trans (tS_size HT.out) hsz, hne, Only1.low HL5.out ho6 hQl⟩); replace hh5 := Lib.hid (ho6.at hh5.out hOQ); clear z3; have z3 := cellH hh5.out 3; simp at z3; clear hf6 ho6))
            clear HO1 hh5 HF5 HD5 HL5 HI2 z3 y3
            generalize tV b r = v1
            generalize tS S b r = S2 at *
            generalize tB b r = b2 at *
            clear HT
            have y1 := cellH HI6.out.ref 1
            simp at y1
            have HK := Lib.hid (show (HoldS w6 [(⟨Q, 1, none⟩, .bool b2)] (RdI w R Q S2 b2)) w6.drew from ⟨cc y1 cn, HI6.out.below (Below.refl _ _).drew, (Below.refl _ _).drew⟩)
            have f1 : ∀ x : HeldW (HoldS w6 [(⟨Q, 1, none⟩, .bool b2)] (RdI w R Q S2 b2)), x.w.cell? ⟨Q, 1, none⟩ = some (.bool b2) := fun x => x.at_ 0 rfl
            cases b2 with
            | true =>
              go_wp2_with fail
              refine wp_region_kept _ (by kernel_rfl) (by kernel_rfl) HK.out ?_
              intro hne
              repeat (go_big_quiet_step (first | (go_at_call 20; rename_i xx; refine kept_of (HoldS.keep (fun _ _ h hb => h.below hb)) (rd_ok xx.ok.2.1.rd))))
              refine wpQuiet_nil ?_
              rintro w9 ⟨⟨_, hq⟩, rfl⟩
              obtain ⟨hcs, h9, hb9⟩ := hq
              clear f1 hne hcs hb9
              go_wp2_with fail
              go_roundw
              case rel => exact ⟨k + 1, S2, true, by omega, by go_num, h9⟩
              case measure => simp [intOf]; omega
            | false =>
              go_wp2_with fail
              refine wp_region_kept _ (by kernel_rfl) (by kernel_rfl) HK.out ?_
              intro hne
              repeat (go_big_quiet_step (first | (go_at_call 20; rename_i xx; refine kept_of (HoldS.keep (fun _ _ h hb => h.below hb)) (rd_ok xx.ok.2.1.rd))))
              refine wpQuiet_nil ?_
              rintro w9 ⟨⟨_, hq⟩, rfl⟩
              obtain ⟨hcs, h9, hb9⟩ := hq
              clear f1 hne hcs hb9
              go_wp2_with fail
              go_roundw
              case rel => exact ⟨k + 1, S2, false, by omega, by go_num, h9⟩
              case measure => simp [intOf]; omega
          · have bb2 : (qk == 2) = false := by simpa using k2
            obtain ⟨r, hr⟩ := takes_some (bl S) 0 7
            obtain ⟨q, hq⟩ := takes_some (bl (iS S b r)) 0 65535
            have HT := Lib.hid hr
            have HU := Lib.hid hq
            have hsz2 := iS_size (b := b) hr
            have V1 := Lib.hid (iV_range (b := b) hr)
            have V2 := Lib.hid (iV_range (b := iB b r) hq)
            clear hr hq
            go_wp2_with fail
            refine (refrint HI1.out.ref 0 7 r HT.out (by omega)).mono ?_
            rintro e w5 ⟨rfl, hf5, ho5⟩
            have HF5 := Lib.hid hf5
            have HD5 := Lib.hid (RdAt.only HI1.out.rd ho5 hne)
            have HL5 := Lib.hid (Only1.low HI1.out.low ho5 hQl)
            clear hf5 ho5 HI HI1 HO1 x0 x1 x2 x3 x4 x5 x6 hOR hOQ
            have hLR : w5.heap.size ≠ R := by have := RdAt.low HD5.out; omega
            have hLQ : w5.heap.size ≠ Q := by have := (Array.getElem?_eq_some_iff.1 HF5.out).1; omega
            have hb6 := (Below.refl _ w5).alloc (Nat.le_refl _) (.cells #[.int .i64 (iV b r), .int .u16 0] 30)
            have HF6 := Lib.hid (HF5.out.only (Only1.of_below (R := R) hb6) (Ne.symm hne))
            have HD6 := Lib.hid (RdAt.only HD5.out (Only1.of_below (R := Q) hb6) hne)
            have HL6 := Lib.hid (below_step HL5.out hb6)
            have HO6 := Lib.hid (made_at w5 (.cells #[.int .i64 (iV b r), .int .u16 0] 30))
            clear hb6
            go_wp2_with fail
            refine (refrint HF6.out 0 65535 q HU.out (by omega)).mono ?_
            rintro e w6 ⟨rfl, hf7, ho7⟩
            have HF7 := Lib.hid hf7
            have HD7 := Lib.hid (RdAt.only HD6.out ho7 hne)
            have HL7 := Lib.hid (Only1.low HL6.out ho7 hQl)
            have HO7 := Lib.hid (ho7.at HO6.out hLQ)
            have LAB := Lib.hid (fun (W : World) (h : RdAt W R S b) (v : VarsAt W) => label_is h v r q HT.out HU.out (Nat.le_trans hsz (by omega)))
            have hll : w.heap.size ≤ w5.heap.size := HL5.out.size
            have hszz := Nat.le_trans (iS_size (b := iB b r) HU.out) (Nat.le_trans hsz2 hsz)
            clear hf7 ho7 HO6 HL6 HD6 HF6 HF5 HD5 HL5 HT HU hsz2 hsz
            generalize w5.heap.size = L at *
            have hv1 := V1.out.1
            have hv2 : 0 ≤ iV (iB b r) q ∧ iV (iB b r) q ≤ 65535 := by have := V2.out.2; omega
            clear V1 V2
            generalize iS (iS S b r) (iB b r) q = S2 at *
            generalize iB (iB b r) q = b2 at *
            generalize iV (iB b r) q = v2 at *
            generalize iV b r = v1 at *
            have z0 := cellH HO7.out 0
            have z1 := cellH HO7.out 1
            have zf := freeH HO7.out
            have y1 := cellH HF7.out 1
            simp at z0 z1 y1
            cases b2 with
            | true =>
              have hO := Lib.hid (show Only1 L w6 (((w6.setCell ⟨L, 1, none⟩ (.int .u16 v2)).setCell ⟨L, 0, none⟩ (.int .i64 0)).setCell ⟨L, 1, none⟩ (.int .u16 0)) from (Only1.set (R := L) _).trans ((Only1.set _).trans (Only1.set _)))
              have HOT := Lib.hid (show (((w6.setCell ⟨L, 1, none⟩ (.int .u16 v2)).setCell ⟨L, 0, none⟩ (.int .i64 0)).setCell ⟨L, 1, none⟩ (.int .u16 0)).heap[L]? = some (.cells #[.int .i64 0, .int .u16 0] 30 (0, 0)) from by rw [row_set (row_set (row_set HO7.out))]; rfl)
              have HFT := Lib.hid (HF7.out.only hO.out (Ne.symm hLQ))
              have HDT := Lib.hid (RdAt.only HD7.out hO.out (Ne.symm hLR))
              have HLT := Lib.hid (Only1.low HL7.out hO.out hll)
              go_wp2_with fail
              clear hO HO7 HF7 HD7 HL7 z0 z1 zf y1
              generalize (((w6.setCell ⟨L, 1, none⟩ (.int .u16 v2)).setCell ⟨L, 0, none⟩ (.int .i64 0)).setCell ⟨L, 1, none⟩ (.int .u16 0)) = w7 at *
              have HFD := Lib.hid (HFT.out.only (Only1.of_below (R := R) (Below.refl _ w7).drew) (Ne.symm hne))
              have HDD := Lib.hid (RdAt.only HDT.out (Only1.of_below (R := Q) (Below.refl _ w7).drew) hne)
              have HLD := Lib.hid (below_step HLT.out (Below.refl _ w7).drew)
              have y2 := (cellH HOT.out 0).trans (show _ = some (Value.int .i64 0) from rfl)
              have y3 := (cellH HOT.out 1).trans (show _ = some (Value.int .u16 0) from rfl)
              go_region_held3 (fun W => W.cell? ⟨L, 0, none⟩ = some (.int .i64 0) ∧ W.cell? ⟨L, 1, none⟩ = some (.int .u16 0))
                (first | exact ⟨y2, y3⟩ | exact ⟨z2, z3⟩)
                (first
                  | (go_at_call 19; refine (LAB.out _ HDD.out (HV.out.later HLD.out)).mono ?_; rintro e w8 ⟨rfl, hd8, ho8⟩; have hh8 := Lib.hid (ho8.at HOT.out hLR); have z2 := cellH hh8.out 0; have z3 := cellH hh8.out 1; simp at z2 z3; have HI8 := Lib.hid (show RdI w R Q S2 true w8 from ⟨hd8, HFD.out.only ho8 (Ne.symm hne), hszz, hne, Only1.low HLD.out ho8 hRl⟩); clear hd8 ho8))
              clear HOT HFT HDT HLT HFD HDD HLD y2 y3 z2 z3 hh8 LAB
              have y1 := cellH HI8.out.ref 1
              simp at y1
              have HK := Lib.hid (show (HoldS w8 [(⟨Q, 1, none⟩, .bool true)] (RdI w R Q S2 true)) w8.drew from ⟨cc y1 cn, HI8.out.below (Below.refl _ _).drew, (Below.refl _ _).drew⟩)
              have f1 : ∀ x : HeldW (HoldS w8 [(⟨Q, 1, none⟩, .bool true)] (RdI w R Q S2 true)), x.w.cell? ⟨Q, 1, none⟩ = some (.bool true) := fun x => x.at_ 0 rfl
              go_wp2_with fail
              refine wp_region_kept _ (by kernel_rfl) (by kernel_rfl) HK.out ?_
              intro hne
              repeat (go_big_quiet_step (first | (go_at_call 20; rename_i xx; refine kept_of (HoldS.keep (fun _ _ h hb => h.below hb)) (rd_ok xx.ok.2.1.rd))))
              refine wpQuiet_nil ?_
              rintro w9 ⟨⟨_, hq⟩, rfl⟩
              obtain ⟨hcs, h9, hb9⟩ := hq
              clear f1 hne hcs hb9
              go_wp2_with fail
              go_roundw
              case rel => exact ⟨k + 1, S2, true, by omega, by go_num, h9⟩
              case measure => simp [intOf]; omega
            | false =>
              have hO := Lib.hid (show Only1 L w6 (w6.setCell ⟨L, 1, none⟩ (.int .u16 v2)) from Only1.set (R := L) _)
              have HOT := Lib.hid (show (w6.setCell ⟨L, 1, none⟩ (.int .u16 v2)).heap[L]? = some (.cells #[.int .i64 v1, .int .u16 v2] 30 (0, 0)) from by rw [row_set HO7.out]; rfl)
              have HFT := Lib.hid (HF7.out.only hO.out (Ne.symm hLQ))
              have HDT := Lib.hid (RdAt.only HD7.out hO.out (Ne.symm hLR))
              have HLT := Lib.hid (Only1.low HL7.out hO.out hll)
              go_wp2_with fail
              clear hO HO7 HF7 HD7 HL7 z0 z1 zf y1
              generalize (w6.setCell ⟨L, 1, none⟩ (.int .u16 v2)) = w7 at *
              have HFD := Lib.hid (HFT.out.only (Only1.of_below (R := R) (Below.refl _ w7).drew) (Ne.symm hne))
              have HDD := Lib.hid (RdAt.only HDT.out (Only1.of_below (R := Q) (Below.refl _ w7).drew) hne)
              have HLD := Lib.hid (below_step HLT.out (Below.refl _ w7).drew)
              have y2 := (cellH HOT.out 0).trans (show _ = some (Value.int .i64 v1) from rfl)
              have y3 := (cellH HOT.out 1).trans (show _ = some (Value.int .u16 v2) from rfl)
              go_region_held3 (fun W => W.cell? ⟨L, 0, none⟩ = some (.int .i64 v1) ∧ W.cell? ⟨L, 1, none⟩ = some (.int .u16 v2))
                (first | exact ⟨y2, y3⟩ | exact ⟨z2, z3⟩)
                (first
                  | (go_at_call 19; refine (LAB.out _ HDD.out (HV.out.later HLD.out)).mono ?_; rintro e w8 ⟨rfl, hd8, ho8⟩; have hh8 := Lib.hid (ho8.at HOT.out hLR); have z2 := cellH hh8.out 0; have z3 := cellH hh8.out 1; simp at z2 z3; have HI8 := Lib.hid (show RdI w R Q S2 false w8 from ⟨hd8, HFD.out.only ho8 (Ne.symm hne), hszz, hne, Only1.low HLD.out ho8 hRl⟩); clear hd8 ho8))
              clear HOT HFT HDT HLT HFD HDD HLD y2 y3 z2 z3 hh8 LAB
              have y1 := cellH HI8.out.ref 1
              simp at y1
              have HK := Lib.hid (show (HoldS w8 [(⟨Q, 1, none⟩, .bool false)] (RdI w R Q S2 false)) w8.drew from ⟨cc y1 cn, HI8.out.below (Below.refl _ _).drew, (Below.refl _ _).drew⟩)
              have f1 : ∀ x : HeldW (HoldS w8 [(⟨Q, 1, none⟩, .bool false)] (RdI w R Q S2 false)), x.w.cell? ⟨Q, 1, none⟩ = some (.bool false) := fun x => x.at_ 0 rfl
              go_wp2_with fail
              refine wp_region_kept _ (by kernel_rfl) (by kernel_rfl) HK.out ?_
              intro hne
              repeat (go_big_quiet_step (first | (go_at_call 20; rename_i xx; refine kept_of (HoldS.keep (fun _ _ h hb => h.below hb)) (rd_ok xx.ok.2.1.rd))))
              refine wpQuiet_nil ?_
              rintro w9 ⟨⟨_, hq⟩, rfl⟩
              obtain ⟨hcs, h9, hb9⟩ := hq
              clear f1 hne hcs hb9
              go_wp2_with fail
              go_roundw
              case rel => exact ⟨k + 1, S2, false, by omega, by go_num, h9⟩
              case measure => simp [intOf]; omega
      · obtain rfl : k = n := by omega
        have y0 := cellH HI.out.ref 0
        have y1 := cellH HI.out.ref 1
        simp at y0 y1
        have HK := Lib.hid (show (HoldS wr [(⟨Q, 0, none⟩, .string S), (⟨Q, 1, none⟩, .bool b)] (RdI w R Q S b)) wr.drew from ⟨cc y0 (cc y1 cn), HI.out.below (Below.refl _ _).drew, (Below.refl _ _).drew⟩)
        have f0 : ∀ x : HeldW (HoldS wr [(⟨Q, 0, none⟩, .string S), (⟨Q, 1, none⟩, .bool b)] (RdI w R Q S b)), x.w.cell? ⟨Q, 0, none⟩ = some (.string S) := fun x => x.at_ 0 rfl
        have f1 : ∀ x : HeldW (HoldS wr [(⟨Q, 0, none⟩, .string S), (⟨Q, 1, none⟩, .bool b)] (RdI w R Q S b)), x.w.cell? ⟨Q, 1, none⟩ = some (.bool b) := fun x => x.at_ 1 rfl
        cases b with
        | true =>
          go_wp2_with fail
          refine wp_region_kept _ (by kernel_rfl) (by kernel_rfl) HK.out ?_
          intro hne
          repeat (go_big_quiet_step (first | (go_at_call 21; rename_i xx; refine kept_of (HoldS.keep (fun _ _ h hb => h.below hb)) (rd_done xx.ok.2.1.rd))))
          refine wpQuiet_nil ?_
          rintro w9 ⟨⟨_, hq⟩, rfl⟩
          obtain ⟨hcs, h9, hb9⟩ := hq
          clear f0 f1 hne hcs hb9
          go_wp2_with fail
          go_ret
          exact ⟨rfl, h9.low⟩
        | false =>
          go_wp2_with fail
          refine wp_region_kept _ (by kernel_rfl) (by kernel_rfl) HK.out ?_
          intro hne
          repeat (go_big_quiet_step (first | (go_at_call 21; rename_i xx; refine kept_of (HoldS.keep (fun _ _ h hb => h.below hb)) (rd_done xx.ok.2.1.rd))))
          refine wpQuiet_nil ?_
          rintro w9 ⟨⟨_, hq⟩, rfl⟩
          obtain ⟨hcs, h9, hb9⟩ := hq
          clear f0 f1 hne hcs hb9
          go_wp2_with fail
          go_ret
          exact ⟨by simp, h9.low⟩
end
end Go.Proofs.YtnajbcbdncmbbaaDoor
