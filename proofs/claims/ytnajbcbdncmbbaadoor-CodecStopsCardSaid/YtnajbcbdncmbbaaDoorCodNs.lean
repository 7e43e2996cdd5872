/-
  The law CodecStops, walked. No conditions but the numbers' types, and what the package-level variables hold.
-/
import Derived.Test.YtnajbcbdncmbbaaDoorCodM
namespace Go.Proofs.YtnajbcbdncmbbaaDoor
open Go.RowKit

/-- A text that is cut off isn't read whole. -/
theorem cut_short {n : Int} {s p : ByteArray} {k : Nat} (hk : k < (numX n ++ (numX s.size ++ s)).size) (hp : p = (numX n ++ (numX s.size ++ s)).extract 0 k)
    {r q : Option (Int × List UInt8)} (hr : Takes (bl p) n n r) (hq : Takes (bl (iS p false r)) 0 300 q) : (!(tB (iB false r) q) && (tS (iS p false r) (iB false r) q).toList == []) = false := by
  cases hB : tB (iB false r) q with
  | true => rfl
  | false =>
    have hz : bl p ++ (bl (numX n ++ (numX s.size ++ s))).drop k = numT n ++ (numT s.size ++ bl s) := by
      rw [hp, bl_extract, List.drop_zero, List.take_append_drop, bl_append, bl_append, bl_numX, bl_numX]
    have hzl : 0 < ((bl (numX n ++ (numX s.size ++ s))).drop k).length := by rw [List.length_drop, bl_len]; omega
    generalize (bl (numX n ++ (numX s.size ++ s))).drop k = z at hz hzl
    simp only [tB, Bool.or_eq_false_iff] at hB
    obtain ⟨h1, h2⟩ := hB
    cases r with
    | none => simp [iB] at h1
    | some rr =>
      obtain ⟨a, x⟩ := rr
      cases q with
      | none => simp [rtB] at h2
      | some qq =>
        obtain ⟨m, y⟩ := qq
        simp only [rtB, decide_eq_false_iff_not] at h2
        simp only [iS, iB, Bool.false_or, Option.isNone_some, rdS, Bool.false_eq_true, if_false] at hq ⊢
        simp only [tS, rtS, Bool.false_eq_true, if_false, if_neg h2]
        rcases hr with ⟨a', x', _, _, a3, a4, a5, e⟩ | ⟨_, e⟩
        · obtain ⟨rfl, rfl⟩ := Prod.mk.inj (Option.some.inj e)
          rcases hq with ⟨m', y', _, _, b3, b4, b5, e⟩ | ⟨_, e⟩
          · obtain ⟨rfl, rfl⟩ := Prod.mk.inj (Option.some.inj e)
            rw [bl_ofL] at b3
            rw [a3, b3, List.append_assoc, List.append_assoc] at hz
            obtain ⟨_, e1⟩ := numT_front hz
            obtain ⟨e2, e3⟩ := numT_front e1
            have e4 := congrArg List.length e3
            rw [List.length_append, bl_len] at e4
            have hne : ofL (y.drop m.toNat) ≠ .empty := fun h => by
              have := congrArg bl h
              rw [bl_ofL] at this
              have h5 := congrArg List.length this
              rw [List.length_drop] at h5
              have h6 : (bl ByteArray.empty).length = 0 := rfl
              omega
            have := ba_beq (ofL (y.drop m.toNat)) .empty
            rw [decide_eq_false hne] at this
            simpa using this
          · cases e
        · cases e

theorem cut_at (c : Int) {n : Nat} (h : 0 < n) (h2 : n ≤ 1000000) : ∃ k : Nat, wrap64 ((IntKind.u64.wrap c).tmod (n : Int)) = k ∧ k < n := by
  have h0 : 0 ≤ IntKind.u64.wrap c := by rw [IntKind.wrap_u64]; omega
  rw [Int.tmod_eq_emod_of_nonneg h0]
  generalize IntKind.u64.wrap c = z at h0
  have h3 := Int.emod_nonneg z (show (n : Int) ≠ 0 by omega)
  have h4 := Int.emod_lt_of_pos z (show (0 : Int) < n by omega)
  refine ⟨(z % n).toNat, ?_, by omega⟩
  unfold wrap64
  omega

section
variable {w : World}
set_option maxHeartbeats 4000000 in
set_option maxRecDepth 100000 in
theorem stops_true (hV : VarsAt w) (n : Int) (s : ByteArray) (cut : Int) (hn : -9223372036854775808 ≤ n ∧ n ≤ 9223372036854775807) :
    Calls Tryd.prog 7 #[.int .i64 n, .string s, .int .i64 cut] w fun e w' => e = .returned (.bool true) ∧ Below w.heap.size w w' := by
  have HV := Lib.hid hV
  clear hV
  go_enter Tryd.func7, Tryd.ntmps7
  go_wp2_with fail
  refine (awake_true HV.out).mono ?_
  rintro e w1 ⟨rfl, hb1⟩
  by_cases hs : 300 < s.size
  · go_wp2_with fail
    refine (awake_true (HV.out.later hb1)).mono ?_
    rintro e w2 ⟨rfl, hb2⟩
    have HB := Lib.hid (below_step hb1 hb2)
    clear hb1 hb2
    go_wp2_with fail
    go_ret
    exact ⟨rfl, HB.out⟩
  have HV1 := HV.out.later hb1
  have hz := WrV.zero HV1
  have b2 := (Below.refl _ w1).alloc (Nat.le_refl _) (.cells #[.pointer none, .int .i64 0] 27)
  have b3 := (Below.refl _ (w1.alloc (.cells #[.pointer none, .int .i64 0] 27))).alloc (Nat.le_refl _) (.cells #[.int .i64 n] 3)
  have HW3 := Lib.hid (hz.below b3)
  have HL3 := Lib.hid (below_step (below_step hb1 b2) b3)
  have hPl : w.heap.size ≤ w1.heap.size := hb1.size
  have hof := off_new hz
  have hia := ints_made (w1.alloc (.cells #[.pointer none, .int .i64 0] 27)) [n]
  rw [show (w1.alloc (.cells #[.pointer none, .int .i64 0] 27)).heap.size = w1.heap.size + 1 by simp] at hof hia
  have HOF := Lib.hid hof
  have HIA := Lib.hid hia
  clear b2 b3 hb1 hz hof hia HV1
  have hln := numX_len hn.1 hn.2
  have hls := numX_len (n := (s.size : Int)) (by omega) (by omega)
  go_wp2_with fail
  refine (wint_is HW3.out _ [n] 1 HIA.out HOF.out (by simpa using hn) (by simp) (by rw [ints_one]; omega)).mono ?_
  rintro e w4 ⟨rfl, O4, hW4, hN4, hO4⟩
  rw [ints_one] at hW4
  have HN4 := Lib.hid (show ∀ i ∈ O4, w.heap.size ≤ i from fun i hi => by
    rcases hN4 i hi with h1 | h1
    · rw [List.mem_singleton] at h1; omega
    · exact Nat.le_trans HL3.out.size h1)
  have hl4 := hO4.low HL3.out (fun i hi => by rw [List.mem_singleton] at hi; omega)
  have b5 := (Below.refl _ w4).alloc (Nat.le_refl _) (.cells #[.string s] 9)
  have HOF5 := Lib.hid (off_new hW4)
  have HW5 := Lib.hid (hW4.below b5)
  have HL5 := Lib.hid (below_step hl4 b5)
  have HIB := Lib.hid (show TxtsAt (w4.alloc (.cells #[.string s] 9)) (some ⟨w4.heap.size, 0, none⟩) [s] from fun _ => ⟨_, rfl, fun i n h => by
    match i, h with
    | 0, h =>
      obtain rfl := Option.some.inj h
      exact (cellH (made_at w4 (.cells #[.string s] 9)) 0).trans (show _ = some (Value.string s) from rfl)⟩)
  have ht : txtsX (numX n) [s] = numX n ++ (numX s.size ++ s) := rfl
  have hsz : (txtsX (numX n) [s]).size ≤ 140737488355328 := by rw [ht, size_cat, size_cat]; omega
  clear hW4 hN4 hO4 hl4 HW3 HL3 HOF HIA b5
  go_wp2_with fail
  refine (wtext_is HW5.out _ [s] 1 HIB.out HOF5.out (by simp) hsz).mono ?_
  rintro e w6 ⟨rfl, O6, hW6, hN6, hO6⟩
  have HL6 := Lib.hid (hO6.low HL5.out HN4.out)
  rw [ht] at hW6
  have HW6 := Lib.hid hW6
  clear ht hsz hW6 hN6 hO6 HW5 HL5 HIB HOF5 HN4
  have SHORT := Lib.hid (fun (p : ByteArray) (k : Nat) => @cut_short n s p k)
  have hall : (numX n ++ (numX s.size ++ s)).size = (numX n).size + ((numX s.size).size + s.size) := by rw [ByteArray.size_append, ByteArray.size_append]
  have HNONE := Lib.hid (show Takes (bl (numX n ++ (numX s.size ++ s))) 1 0 none from .inr ⟨fun ⟨m, x, _, _, _, h1, h2⟩ => by omega, rfl⟩)
  generalize numX n ++ (numX s.size ++ s) = all at *
  have hpos : 0 < all.size := by omega
  have hub : all.size ≤ 342 := by omega
  clear hall hln hls
  obtain ⟨k, hk, hkl⟩ := cut_at cut hpos (by omega)
  go_wp2_with fail
  refine (str_is HW6.out.wr).mono ?_
  rintro e w7 ⟨rfl, hb7⟩
  have HL7 := Lib.hid (below_step HL6.out hb7)
  clear hb7 HW6 HL6
  go_wp2_with fail
  obtain ⟨pp, hpp⟩ : ∃ pp, pp = all.extract 0 k := ⟨_, rfl⟩
  have hps : pp.size ≤ 342 := by rw [hpp, ByteArray.size_extract]; omega
  obtain ⟨r, hr⟩ := takes_some (bl pp) n n
  obtain ⟨q, hq⟩ := takes_some (bl (iS pp false r)) 0 300
  have hps2 := Nat.le_trans (iS_size (b := false) hr) hps
  have HEND := Lib.hid (SHORT.out pp k hkl hpp hr hq)
  have HT := Lib.hid hr
  have HU := Lib.hid hq
  rw [← hpp]
  clear hr hq SHORT hpp hkl hk
  refine (new_is pp _).mono ?_
  rintro e w8 ⟨R, rfl, hR0, hR, hb8⟩
  have HR8 := Lib.hid hR
  have HL8 := Lib.hid (below_step HL7.out hb8)
  have hRl : w.heap.size ≤ R := Nat.le_trans HL7.out.size hR0
  clear hR0 hR hb8 HL7
  go_wp2_with fail
  refine (int_is HR8.out (HV.out.later HL8.out) n n r HT.out (by omega)).mono ?_
  rintro e w9 ⟨rfl, hr9, ho9⟩
  have HR9 := Lib.hid hr9
  have HL9 := Lib.hid (Only1.low HL8.out ho9 hRl)
  clear hr9 ho9 HR8 HL8
  go_wp2_with fail
  refine (text_is HR9.out (HV.out.later HL9.out) 300 q HU.out (by omega)).mono ?_
  rintro e w10 ⟨rfl, hr10, ho10⟩
  have HR10 := Lib.hid hr10
  have HL10 := Lib.hid (Only1.low HL9.out ho10 hRl)
  clear hr10 ho10 HR9 HL9
  go_wp2_with fail
  refine (rd_done HR10.out).mono ?_
  rintro e w11 ⟨rfl, hb11⟩
  rw [HEND.out]
  have HL11 := Lib.hid (below_step HL10.out hb11)
  clear hb11 HR10 HL10 HEND HT HU
  go_wp2_with fail
  refine (new_is all _).mono ?_
  rintro e w12 ⟨X, rfl, hX0, hX, hb12⟩
  have HX12 := Lib.hid hX
  have HL12 := Lib.hid (below_step HL11.out hb12)
  have hXl : w.heap.size ≤ X := Nat.le_trans HL11.out.size hX0
  clear hX0 hX hb12 HL11
  go_wp2_with fail
  refine (int_is HX12.out (HV.out.later HL12.out) 1 0 none HNONE.out (by omega)).mono ?_
  rintro e w13 ⟨rfl, hx13, ho13⟩
  have HX13 := Lib.hid (show RdAt w13 X all true from hx13)
  have HL13 := Lib.hid (Only1.low HL12.out ho13 hXl)
  clear hx13 ho13 HX12 HL12
  go_wp2_with fail
  obtain ⟨r2, hr2⟩ := takes_some (bl all) n n
  obtain ⟨q2, hq2⟩ := takes_some (bl all) 0 300
  refine (int_is HX13.out (HV.out.later HL13.out) n n r2 hr2 (by omega)).mono ?_
  rintro e w14 ⟨rfl, hx14, ho14⟩
  have HX14 := Lib.hid (show RdAt w14 X all true from hx14)
  have HL14 := Lib.hid (Only1.low HL13.out ho14 hXl)
  rw [show iV true r2 = 0 from rfl]
  clear hx14 ho14 hr2 HX13 HL13
  go_wp2_with fail
  refine (text_is HX14.out (HV.out.later HL14.out) 300 q2 hq2 (by omega)).mono ?_
  rintro e w15 ⟨rfl, hx15, ho15⟩
  have HX15 := Lib.hid (show RdAt w15 X all true from hx15)
  have HL15 := Lib.hid (Only1.low HL14.out ho15 hXl)
  rw [show tV true q2 = ByteArray.empty from rfl]
  clear hx15 ho15 hq2 HX14 HL14
  go_wp2_with fail
  refine (rd_ok HX15.out).mono ?_
  rintro e w16 ⟨rfl, hb16⟩
  have HX16 := Lib.hid (RdAt.only HX15.out (Only1.of_below (R := w15.heap.size) hb16) (by have := RdAt.low HX15.out; omega))
  have HL16 := Lib.hid (below_step HL15.out hb16)
  clear hb16 HX15 HL15
  go_wp2_with fail
  refine (rd_done HX16.out).mono ?_
  rintro e w17 ⟨rfl, hb17⟩
  have HL17 := Lib.hid (below_step HL16.out hb17)
  clear hb17 HX16 HL16
  go_wp2_with fail
  go_ret
  exact ⟨rfl, HL17.out⟩
end
end Go.Proofs.YtnajbcbdncmbbaaDoor
