/-
  SectorOne, walked over the bundle SecK (under way).
-/
import Derived.Test.YtblmempidngcgaaSecH
import Derived.Laws.IdiomStrings
import Derived.Test.YtblmempidngcgaaSecY
import Derived.Laws.BitsAllLaws
namespace Go.Proofs.Ytblmempidngcgaa
open Go.RowKit

theorem bit_count (n : Int) : ∃ m : Nat, wrap64 ((IntKind.u64.wrap n).tmod 128) = m ∧ m < 128 := by
  have h0 : 0 ≤ IntKind.u64.wrap n := by rw [IntKind.wrap_u64]; omega
  have e : (IntKind.u64.wrap n).tmod 128 = IntKind.u64.wrap n % 128 := Int.tmod_eq_emod_of_nonneg h0
  rw [e]
  generalize IntKind.u64.wrap n = z at h0
  refine ⟨(z % 128).toNat, ?_, by omega⟩
  unfold wrap64
  omega

theorem turn_bit (b : UInt8) {r : Nat} (hr : r < 8) : ∃ c : UInt8, c ≠ b ∧ bits .xor .u8 (b.toNat : Int) (2 ^ r % 256) = (c.toNat : Int) := by
  have hb := b.toNat_lt
  have h2 : (2 : Nat) ^ r ≤ 2 ^ 7 := Nat.pow_le_pow_right (by omega) (by omega)
  have h0 : 0 < (2 : Nat) ^ r := Nat.pow_pos (by omega)
  have hw : (2 : Int) ^ r % 256 = ((2 ^ r : Nat) : Int) := by
    rw [show (2 : Int) ^ r = ((2 ^ r : Nat) : Int) by simp]
    omega
  have hx : b.toNat ^^^ 2 ^ r < 2 ^ 8 := Nat.xor_lt_two_pow (by omega) (by omega)
  refine ⟨UInt8.ofNat (b.toNat ^^^ 2 ^ r), fun e => ?_, ?_⟩
  · have h := congrArg UInt8.toNat e
    rw [UInt8.toNat_ofNat_of_lt' (by omega)] at h
    have h3 : b.toNat ^^^ 2 ^ r = b.toNat := h
    have h4 := congrArg (fun x => b.toNat ^^^ x) h3
    simp only [← Nat.xor_assoc, Nat.xor_self, Nat.zero_xor] at h4
    omega
  · rw [hw, u8_xor_nat _ _ (by omega) (by omega), UInt8.toNat_ofNat_of_lt' (by omega)]
/-- Both questions have one answer. -/
theorem one_eq {a b : Pc} (ha : a.Ok) (fa : a.Fits) (hb : b.Ok) (fb : b.Fits) : ∃ r : Bool, ((printB a).toList == (printB b).toList) = r ∧ samePc ⟨a.stamp, a.gen, a.no, a.idx, a.tot, a.data⟩ ⟨b.stamp, b.gen, b.no, b.idx, b.tot, b.data⟩ = r := by
  refine ⟨samePc a b, ?_, rfl⟩
  have hi : samePc a b = true ↔ a = b := by
    obtain ⟨s, g, o, i, t, d⟩ := a
    obtain ⟨s', g', o', i', t', d'⟩ := b
    simp only [samePc, Bool.and_eq_true, decide_eq_true_eq, Pc.mk.injEq]
    exact ⟨fun ⟨⟨⟨⟨⟨a, b⟩, c⟩, d⟩, e⟩, f⟩ => ⟨a, b, c, d, e, f⟩, fun ⟨a, b, c, d, e, f⟩ => ⟨⟨⟨⟨⟨a, b⟩, c⟩, d⟩, e⟩, f⟩⟩
  rw [ba_beq, Bool.eq_iff_iff, hi, decide_eq_true_eq]
  exact ⟨fun h => print_inj ha fa hb fb h, fun h => by rw [h]⟩
/-- This one world. -/
structure IsW (V W : World) : Prop where
  eq : W = V
theorem turned_conv {W : World} {g cap : Nat} {R : Array Value} {t : TypeId} {fr : Nat × Nat} {s : ByteArray} (hs : s.size = 64) (hrow : W.heap[g]? = some (.cells R t fr)) (hR : ∀ j (hj : j < s.data.size), R[j]? = some (.int .u8 (s.data[j].toNat : Int))) (q : Nat) (c : UInt8) :
    (convert 52 9 (.slice (some ⟨g, 0, none⟩) 64 cap)).run Try.prog (W.setCell ⟨g, q, none⟩ (.int .u8 (c.toNat : Int))) = .ok (.string (ofL ((bl s).set q c))) (W.setCell ⟨g, q, none⟩ (.int .u8 (c.toNat : Int))) := by
  have hl : ((bl s).set q c).length = 64 := by rw [List.length_set, bl_len, hs]
  have hg := row_set (i := q) (v := .int .u8 (c.toNat : Int)) hrow
  have hsd : s.data.size = 64 := hs
  have := run_convert_bytes_back (P := Try.prog) (W.setCell ⟨g, q, none⟩ (.int .u8 (c.toNat : Int))) 52 9 5 ⟨g, 0, none⟩ cap ((bl s).set q c) Try.underlying52 Try.underlying5 Try.underlying9 (fun j hj => by
    have hj64 : j < 64 := by omega
    have h1 := hR j (by omega)
    have hjR : j < R.size := (Array.getElem?_eq_some_iff.1 h1).1
    rw [Addr.add_lit, Nat.zero_add, cellH hg]
    by_cases e : q = j
    · subst e
      rw [Array.getElem?_setIfInBounds_self_of_lt hjR, List.getElem_set_self]
    · rw [Array.getElem?_setIfInBounds_ne e, h1, List.getElem_set_ne e]
      rfl)
  rw [hl] at this
  exact this

set_option maxHeartbeats 4000000 in
set_option maxRecDepth 100000 in
theorem one_true (C : SecK) (aw : ∀ w : World, Calls Try.prog 7 #[] w fun e w' => e = .returned (.bool true) ∧ Below w.heap.size w w')
    (a b : Pc) (ha : a.In) (hb : b.In) (n : Int) (w : World) :
    Calls Try.prog 6 #[pcV a, pcV b, .int .i64 n] w fun e w' => e = .returned (.bool true) ∧ Below w.heap.size w w' := by
  obtain ⟨m, hm, hm2⟩ := bit_count n
  have HC := Lib.hid C
  have AW := Lib.hid aw
  have RA := Lib.hid (fun w : World => refright_is a.stamp a.gen a.no a.idx a.tot a.data w)
  have RB := Lib.hid (fun w : World => refright_is b.stamp b.gen b.no b.idx b.tot b.data w)
  change Hid (∀ w : World, Calls Try.prog 9 _ w fun e w' => e = .returned (.bool (rightP a)) ∧ Below w.heap.size w w') at RA
  change Hid (∀ w : World, Calls Try.prog 9 _ w fun e w' => e = .returned (.bool (rightP b)) ∧ Below w.heap.size w w') at RB
  have HIa := Lib.hid ha
  have HIb := Lib.hid hb
  clear C aw ha hb
  go_enter Try.func6, Try.ntmps6
  go_wp2_with fail
  refine (AW.out _).mono ?_
  rintro e w1 ⟨rfl, hb1⟩
  have HB1 := Lib.hid (below_step (((Below.refl w.heap.size w).alloc (Nat.le_refl _) (.cells #[.int .u64 a.stamp, .int .i64 a.gen, .int .i64 a.no, .int .i64 a.idx, .int .i64 a.tot, .string a.data] 24)).alloc (by simp) (.cells #[.int .u64 b.stamp, .int .i64 b.gen, .int .i64 b.no, .int .i64 b.idx, .int .i64 b.tot, .string b.data] 24)) hb1)
  have HZ1 := Lib.hid (show w1.heap[w.heap.size]? = some (.cells #[.int .u64 a.stamp, .int .i64 a.gen, .int .i64 a.no, .int .i64 a.idx, .int .i64 a.tot, .string a.data] 24 (0, 0)) from later_at hb1 (by show ((w.heap.push _).push _)[w.heap.size]? = _; rw [Array.getElem?_push, if_neg (by simp), Array.getElem?_push, if_pos rfl]))
  have HX1 := Lib.hid (show w1.heap[w.heap.size + 1]? = some (.cells #[.int .u64 b.stamp, .int .i64 b.gen, .int .i64 b.no, .int .i64 b.idx, .int .i64 b.tot, .string b.data] 24 (0, 0)) from later_at hb1 (by show ((w.heap.push _).push _)[w.heap.size + 1]? = _; rw [Array.getElem?_push, if_pos (by simp)]))
  clear hb1
  have z0 := cellH HZ1.out 0
  have z1 := cellH HZ1.out 1
  have z2 := cellH HZ1.out 2
  have z3 := cellH HZ1.out 3
  have z4 := cellH HZ1.out 4
  have z5 := cellH HZ1.out 5
  have zf := freeH HZ1.out
  have x0 := cellH HX1.out 0
  have x1 := cellH HX1.out 1
  have x2 := cellH HX1.out 2
  have x3 := cellH HX1.out 3
  have x4 := cellH HX1.out 4
  have x5 := cellH HX1.out 5
  have xf := freeH HX1.out
  simp at z0 z1 z2 z3 z4 z5 x0 x1 x2 x3 x4 x5
  go_wp2_with fail
  refine (like_is _ _ _ _ _ _ _).mono ?_
  rintro e w2 ⟨rfl, hb2⟩
  have HZ2 := Lib.hid (later_at hb2 HZ1.out)
  have HX2 := Lib.hid (later_at hb2 HX1.out)
  have HB2 := Lib.hid (below_step HB1.out hb2)
  clear HB1 hb2 HZ1 HX1 z0 z1 z2 z3 z4 z5 zf x0 x1 x2 x3 x4 x5 xf
  have z0 := cellH HZ2.out 0
  have z1 := cellH HZ2.out 1
  have z2 := cellH HZ2.out 2
  have z3 := cellH HZ2.out 3
  have z4 := cellH HZ2.out 4
  have z5 := cellH HZ2.out 5
  have zf := freeH HZ2.out
  have x0 := cellH HX2.out 0
  have x1 := cellH HX2.out 1
  have x2 := cellH HX2.out 2
  have x3 := cellH HX2.out 3
  have x4 := cellH HX2.out 4
  have x5 := cellH HX2.out 5
  have xf := freeH HX2.out
  simp at z0 z1 z2 z3 z4 z5 x0 x1 x2 x3 x4 x5
  go_wp2_with fail
  refine (RA.out _).mono ?_
  rintro e w3 ⟨rfl, hb3⟩
  have HZ3 := Lib.hid (later_at hb3 HZ2.out)
  have HX3 := Lib.hid (later_at hb3 HX2.out)
  have HB3 := Lib.hid (below_step HB2.out hb3)
  clear HB2 hb3 HZ2 HX2 z0 z1 z2 z3 z4 z5 zf x0 x1 x2 x3 x4 x5 xf
  have z0 := cellH HZ3.out 0
  have z1 := cellH HZ3.out 1
  have z2 := cellH HZ3.out 2
  have z3 := cellH HZ3.out 3
  have z4 := cellH HZ3.out 4
  have z5 := cellH HZ3.out 5
  have zf := freeH HZ3.out
  have x0 := cellH HX3.out 0
  have x1 := cellH HX3.out 1
  have x2 := cellH HX3.out 2
  have x3 := cellH HX3.out 3
  have x4 := cellH HX3.out 4
  have x5 := cellH HX3.out 5
  have xf := freeH HX3.out
  simp at z0 z1 z2 z3 z4 z5 x0 x1 x2 x3 x4 x5
  cases hra : rightP a
  · go_wp2_with fail
    refine (AW.out _).mono ?_
    rintro e w4 ⟨rfl, hb4⟩
    have HB4 := Lib.hid (below_step HB3.out hb4)
    clear HB3 hb4 HZ3 HX3 z0 z1 z2 z3 z4 z5 zf x0 x1 x2 x3 x4 x5 xf
    go_wp2_with fail
    refine bodyPost_ret (v := .bool true) (by simp [results, Try.results6, go_sem]) rfl ⟨rfl, ?_⟩
    exact HB4.out
  · go_wp2_with fail
    refine (like_is _ _ _ _ _ _ _).mono ?_
    rintro e w4 ⟨rfl, hb4⟩
    have HZ4 := Lib.hid (later_at hb4 HZ3.out)
    have HX4 := Lib.hid (later_at hb4 HX3.out)
    have HB4 := Lib.hid (below_step HB3.out hb4)
    clear HB3 hb4 HZ3 HX3 z0 z1 z2 z3 z4 z5 zf x0 x1 x2 x3 x4 x5 xf
    have z0 := cellH HZ4.out 0
    have z1 := cellH HZ4.out 1
    have z2 := cellH HZ4.out 2
    have z3 := cellH HZ4.out 3
    have z4 := cellH HZ4.out 4
    have z5 := cellH HZ4.out 5
    have zf := freeH HZ4.out
    have x0 := cellH HX4.out 0
    have x1 := cellH HX4.out 1
    have x2 := cellH HX4.out 2
    have x3 := cellH HX4.out 3
    have x4 := cellH HX4.out 4
    have x5 := cellH HX4.out 5
    have xf := freeH HX4.out
    simp at z0 z1 z2 z3 z4 z5 x0 x1 x2 x3 x4 x5
    go_wp2_with fail
    refine (RB.out _).mono ?_
    rintro e w5 ⟨rfl, hb5⟩
    have HZ5 := Lib.hid (later_at hb5 HZ4.out)
    have HX5 := Lib.hid (later_at hb5 HX4.out)
    have HB5 := Lib.hid (below_step HB4.out hb5)
    clear HB4 hb5 HZ4 HX4 z0 z1 z2 z3 z4 z5 zf x0 x1 x2 x3 x4 x5 xf
    have z0 := cellH HZ5.out 0
    have z1 := cellH HZ5.out 1
    have z2 := cellH HZ5.out 2
    have z3 := cellH HZ5.out 3
    have z4 := cellH HZ5.out 4
    have z5 := cellH HZ5.out 5
    have zf := freeH HZ5.out
    have x0 := cellH HX5.out 0
    have x1 := cellH HX5.out 1
    have x2 := cellH HX5.out 2
    have x3 := cellH HX5.out 3
    have x4 := cellH HX5.out 4
    have x5 := cellH HX5.out 5
    have xf := freeH HX5.out
    simp at z0 z1 z2 z3 z4 z5 x0 x1 x2 x3 x4 x5
    cases hrb : rightP b
    · go_wp2_with fail
      refine (AW.out _).mono ?_
      rintro e w6 ⟨rfl, hb6⟩
      have HB6 := Lib.hid (below_step HB5.out hb6)
      clear HB5 hb6 HZ5 HX5 z0 z1 z2 z3 z4 z5 zf x0 x1 x2 x3 x4 x5 xf
      go_wp2_with fail
      refine bodyPost_ret (v := .bool true) (by simp [results, Try.results6, go_sem]) rfl ⟨rfl, ?_⟩
      exact HB6.out
    · have PA := Lib.hid (HC.out.print a HIa.out)
      have PB := Lib.hid (HC.out.print b HIb.out)
      rw [if_pos hra, if_pos hra] at PA
      rw [if_pos hrb, if_pos hrb] at PB
      have oka := (rightP_iff a).1 hra
      have okb := (rightP_iff b).1 hrb
      have sa := print_size oka.d
      have sb := print_size okb.d
      clear RA RB AW
      go_wp2_with fail
      refine (PA.out _).mono ?_
      rintro e w6 ⟨rfl, hb6⟩
      have HZ6 := Lib.hid (later_at hb6 HZ5.out)
      have HX6 := Lib.hid (later_at hb6 HX5.out)
      have HB6 := Lib.hid (below_step HB5.out hb6)
      clear HB5 hb6 HZ5 HX5 z0 z1 z2 z3 z4 z5 zf x0 x1 x2 x3 x4 x5 xf
      have z0 := cellH HZ6.out 0
      have z1 := cellH HZ6.out 1
      have z2 := cellH HZ6.out 2
      have z3 := cellH HZ6.out 3
      have z4 := cellH HZ6.out 4
      have z5 := cellH HZ6.out 5
      have zf := freeH HZ6.out
      have x0 := cellH HX6.out 0
      have x1 := cellH HX6.out 1
      have x2 := cellH HX6.out 2
      have x3 := cellH HX6.out 3
      have x4 := cellH HX6.out 4
      have x5 := cellH HX6.out 5
      have xf := freeH HX6.out
      simp at z0 z1 z2 z3 z4 z5 x0 x1 x2 x3 x4 x5
      go_wp2_with fail
      refine (PB.out _).mono ?_
      rintro e w7 ⟨rfl, hb7⟩
      have HZ7 := Lib.hid (later_at hb7 HZ6.out)
      have HX7 := Lib.hid (later_at hb7 HX6.out)
      have HB7 := Lib.hid (below_step HB6.out hb7)
      clear HB6 hb7 HZ6 HX6 z0 z1 z2 z3 z4 z5 zf x0 x1 x2 x3 x4 x5 xf
      have z0 := cellH HZ7.out 0
      have z1 := cellH HZ7.out 1
      have z2 := cellH HZ7.out 2
      have z3 := cellH HZ7.out 3
      have z4 := cellH HZ7.out 4
      have z5 := cellH HZ7.out 5
      have zf := freeH HZ7.out
      have x0 := cellH HX7.out 0
      have x1 := cellH HX7.out 1
      have x2 := cellH HX7.out 2
      have x3 := cellH HX7.out 3
      have x4 := cellH HX7.out 4
      have x5 := cellH HX7.out 5
      have xf := freeH HX7.out
      simp at z0 z1 z2 z3 z4 z5 x0 x1 x2 x3 x4 x5
      have HEQ := Lib.hid (one_eq oka HIa.out.fits okb HIb.out.fits)
      have HOA := Lib.hid oka
      generalize hs0 : printB a = s at *
      generalize ht0 : printB b = t at *
      have HS0 := Lib.hid hs0
      have HT0 := Lib.hid ht0
      have SA := Lib.hid sa
      clear hs0 ht0 sb oka okb hra hrb PA PB
      have kc := fun (w : World) => run_bytes_of_string (P := Try.prog) w 9 52 5 s Try.underlying9 Try.underlying52 Try.underlying5
      rw [sa] at kc
      clear sa z0 z1 z2 z3 z4 z5 zf x0 x1 x2 x3 x4 x5 xf
      by_cases hmm : (m : Int) < 64
      · have d0 : (m : Int).tdiv 8 = (m / 8 : Nat) := by rw [Int.tdiv_eq_ediv_of_nonneg (by omega)]; omega
        have d1 : (m : Int).tdiv 8 = (m / 8 : Nat) := d0
        have d2 : (m : Int).tmod 8 = (m % 8 : Nat) := by rw [Int.tmod_eq_emod_of_nonneg (by omega)]; omega
        obtain ⟨q, hq⟩ : ∃ q, q = m / 8 := ⟨_, rfl⟩
        obtain ⟨r, hr⟩ : ∃ r, r = m % 8 := ⟨_, rfl⟩
        rw [← hq] at d1
        rw [← hr] at d2
        clear d0
        have q8 : q < 8 ∨ (56 ≤ q ∧ q < 64) := by omega
        have r8 : r < 8 := by omega
        have q0 : ((q : Nat) : Int) < 64 := by omega
        have q00 : (0 : Int) ≤ q := by omega
        clear hq hr
        have hqs : q < s.data.size := by have := SA.out; show q < s.size; omega
        obtain ⟨c, hcne, hcx⟩ := turn_bit s.data[q] r8
        go_wp2_with fail
        rw [hm]
        clear hm
        obtain ⟨R, hRd⟩ : ∃ R, R = bytesRow s (grownCap w7 64 0 5) := ⟨_, rfl⟩
        have hR : ∀ j (hj : j < s.data.size), R[j]? = some (.int .u8 (s.data[j].toNat : Int)) := fun j hj => by rw [hRd]; exact bytesRow_at s _ j hj
        rw [← hRd]
        clear hRd
        have HT8 := Lib.hid (show Below w7.heap.size w7 (w7.alloc (.cells R 5 (R.size, R.size + 1))).drew from ((Below.refl _ _).alloc (Nat.le_refl _) _).drew)
        have HG8 := Lib.hid (show (w7.alloc (.cells R 5 (R.size, R.size + 1))).drew.heap[w7.heap.size]? = some (.cells R 5 (R.size, R.size + 1)) from made_at _ _)
        generalize (w7.alloc (.cells R 5 (R.size, R.size + 1))).drew = W8 at HT8 HG8 ⊢
        generalize grownCap w7 64 0 5 = cap
        have HB8 := Lib.hid (below_step HB7.out HT8.out)
        have HZ8 := Lib.hid (later_at HT8.out HZ7.out)
        have HX8 := Lib.hid (later_at HT8.out HX7.out)
        have HGE := Lib.hid (show w.heap.size ≤ w7.heap.size from HB7.out.size)
        have HLT := Lib.hid (show w.heap.size + 1 < w7.heap.size from (Array.getElem?_eq_some_iff.1 HX7.out).1)
        generalize w7.heap.size = g at HG8 HGE HLT ⊢
        clear HT8 HB7 HZ7 HX7
        have hRq := hR q hqs
        obtain ⟨bq, hbq⟩ : ∃ bq, bq = s.data[q] := ⟨_, rfl⟩
        rw [← hbq] at hRq hcx hcne
        have HBQ := Lib.hid hbq
        clear hbq
        have hqR : q < R.size := (Array.getElem?_eq_some_iff.1 hRq).1
        have hcell : W8.drew.cell? ⟨g, q, none⟩ = some (.int .u8 (bq.toNat : Int)) := by show W8.cell? ⟨g, q, none⟩ = _; rw [cellH HG8.out, hRq]
        have hfree : W8.drew.frozen? ⟨g, q, none⟩ = false := by show W8.frozen? ⟨g, q, none⟩ = _; have := HG8.out; simp [World.frozen?, this]; omega
        refine wp_region_phase3 (IsW W8.drew) 10 1 (by kernel_rfl) (by kernel_rfl) rfl (by kernel_rfl) (by kernel_rfl) (by kernel_rfl) ⟨rfl⟩ ?_
        intro hne
        simp only [List.take_succ_cons, List.take_zero]
        have f0 : ∀ x : HeldW (IsW W8.drew), x.w.cell? ⟨g, q, none⟩ = some (.int .u8 (bq.toNat : Int)) := fun x => by rw [x.ok.eq]; exact hcell
        repeat (go_big_quiet_step (fail))
        refine wpQuiet_nil ?_
        rintro W9 ⟨⟨_, hF⟩, rfl⟩
        obtain rfl := hF.eq
        clear f0 hne
        refine one_ready (i := 10) (by kernel_rfl) (wpOp_step rfl (fun K' hK' => ?_))
        go_simp
        refine hK' _ _ ?_
        clear hK' K'
        refine ⟨by kernel_rfl, ?_⟩
        have HCV := Lib.hid (turned_conv (W := W8.drew) (g := g) (cap := cap) SA.out HG8.out hR q c)
        have HW9 := Lib.hid (show Below w.heap.size w (W8.drew.setCell ⟨g, q, none⟩ (.int .u8 (c.toNat : Int))) from (HB8.out.drew).setCell (by show w.heap.size ≤ g; have := HGE.out; omega) _)
        have HZ9 := Lib.hid (show (W8.drew.setCell ⟨g, q, none⟩ (.int .u8 (c.toNat : Int))).heap[w.heap.size]? = _ from (Below.heap_setCell _ ⟨g, q, none⟩ _ w.heap.size (by have := HLT.out; simp; omega)).trans HZ8.out)
        have HX9 := Lib.hid (show (W8.drew.setCell ⟨g, q, none⟩ (.int .u8 (c.toNat : Int))).heap[w.heap.size + 1]? = _ from (Below.heap_setCell _ ⟨g, q, none⟩ _ (w.heap.size + 1) (by have := HLT.out; simp; omega)).trans HX8.out)
        change Hid ((convert 52 9 (.slice (some ⟨g, 0, none⟩) 64 cap)).run Try.prog (W8.setCell ⟨g, q, none⟩ (.int .u8 (c.toNat : Int))).drew = .ok (.string (ofL ((bl s).set q c))) (W8.setCell ⟨g, q, none⟩ (.int .u8 (c.toNat : Int))).drew) at HCV
        change Hid (Below w.heap.size w (W8.setCell ⟨g, q, none⟩ (.int .u8 (c.toNat : Int))).drew) at HW9
        change Hid ((W8.setCell ⟨g, q, none⟩ (.int .u8 (c.toNat : Int))).drew.heap[w.heap.size]? = _) at HZ9
        change Hid ((W8.setCell ⟨g, q, none⟩ (.int .u8 (c.toNat : Int))).drew.heap[w.heap.size + 1]? = _) at HX9
        generalize (W8.setCell ⟨g, q, none⟩ (.int .u8 (c.toNat : Int))).drew = W9 at HCV HW9 HZ9 HX9 ⊢
        clear hcell hfree HG8 HB8 HZ8 HX8
        have HNO := Lib.hid (show readP (ofL ((bl s).set q c)) = none by
  rw [← HS0.out, bl_print]
  refine turned_none HOA.out q8 (fun e => hcne ?_)
  have hsq : (bl s)[q]? = some bq := by
    rw [HBQ.out]; exact (List.getElem?_eq_getElem (by rw [bl_len]; exact hqs)).trans rfl
  rw [← HS0.out, bl_print] at hsq
  rw [hsq] at e
  exact (Option.some.inj e).symm)
        obtain ⟨h, hh⟩ : ∃ h, h = ofL ((bl s).set q c) := ⟨_, rfl⟩
        rw [← hh] at HCV HNO
        have HRD := Lib.hid (HC.out.read h (by rw [hh, ofL_size, List.length_set, bl_len, SA.out]; decide))
        rw [HNO.out] at HRD
        change Hid (∀ w : World, Calls Try.prog 13 #[.string h] w fun e w' => e = .returned (.tuple #[.agg #[.int .u64 0, .int .i64 0, .int .i64 0, .int .i64 0, .int .i64 0, .string ⟨#[]⟩], .int .i64 3]) ∧ Below w.heap.size w w') at HRD
        clear hh
        have hcv := HCV.out
        go_wp2_with fail
        refine (HRD.out _).mono ?_
        rintro e w10 ⟨rfl, hb10⟩
        have HB10 := Lib.hid (below_step HW9.out hb10)
        have HZ11 := Lib.hid (later_at ((Below.refl _ _).alloc (Nat.le_refl _) (.cells #[.int .u64 0, .int .i64 0, .int .i64 0, .int .i64 0, .int .i64 0, .string ⟨#[]⟩] 24)) (later_at hb10 HZ9.out))
        have HX11 := Lib.hid (later_at ((Below.refl _ _).alloc (Nat.le_refl _) (.cells #[.int .u64 0, .int .i64 0, .int .i64 0, .int .i64 0, .int .i64 0, .string ⟨#[]⟩] 24)) (later_at hb10 HX9.out))
        clear hcv hb10 HCV HW9 HZ9 HX9
        have z0 := cellH HZ11.out 0
        have z1 := cellH HZ11.out 1
        have z2 := cellH HZ11.out 2
        have z3 := cellH HZ11.out 3
        have z4 := cellH HZ11.out 4
        have z5 := cellH HZ11.out 5
        have zf := freeH HZ11.out
        have x0 := cellH HX11.out 0
        have x1 := cellH HX11.out 1
        have x2 := cellH HX11.out 2
        have x3 := cellH HX11.out 3
        have x4 := cellH HX11.out 4
        have x5 := cellH HX11.out 5
        have xf := freeH HX11.out
        simp at z0 z1 z2 z3 z4 z5 x0 x1 x2 x3 x4 x5
        obtain ⟨rb, hst, hab⟩ := HEQ.out
        cases rb
        · have hst2 : ¬ s.toList = t.toList := by simpa using hst
          go_wp2_with fail
          refine bodyPost_ret (v := .bool true) (by simp [results, Try.results6, go_sem]) rfl ⟨rfl, ?_⟩
          exact HB10.out.alloc HB10.out.size _
        · have hst2 : s.toList = t.toList := by simpa using hst
          go_wp2_with fail
          refine bodyPost_ret (v := .bool true) (by simp [results, Try.results6, go_sem]) rfl ⟨rfl, ?_⟩
          exact HB10.out.alloc HB10.out.size _
      · have d0 : (m : Int).tdiv 8 = (m / 8 : Nat) := by rw [Int.tdiv_eq_ediv_of_nonneg (by omega)]; omega
        have hm64 : ¬ (m : Int) < 64 := hmm
        have hm65 : (64 : Int) ≤ m := by omega
        have d1 : ((384 : Int) + m).tdiv 8 = ((48 + m / 8 : Nat) : Int) := by rw [Int.tdiv_eq_ediv_of_nonneg (by omega)]; omega
        have d2 : ((384 : Int) + m).tmod 8 = (m % 8 : Nat) := by rw [Int.tmod_eq_emod_of_nonneg (by omega)]; omega
        obtain ⟨q, hq⟩ : ∃ q, q = 48 + m / 8 := ⟨_, rfl⟩
        obtain ⟨r, hr⟩ : ∃ r, r = m % 8 := ⟨_, rfl⟩
        rw [← hq] at d1
        rw [← hr] at d2
        clear d0
        have q8 : q < 8 ∨ (56 ≤ q ∧ q < 64) := by omega
        have r8 : r < 8 := by omega
        have q0 : ((q : Nat) : Int) < 64 := by omega
        have q00 : (0 : Int) ≤ q := by omega
        clear hq hr
        have hqs : q < s.data.size := by have := SA.out; show q < s.size; omega
        obtain ⟨c, hcne, hcx⟩ := turn_bit s.data[q] r8
        go_wp2_with fail
        rw [hm]
        clear hm
        obtain ⟨R, hRd⟩ : ∃ R, R = bytesRow s (grownCap w7 64 0 5) := ⟨_, rfl⟩
        have hR : ∀ j (hj : j < s.data.size), R[j]? = some (.int .u8 (s.data[j].toNat : Int)) := fun j hj => by rw [hRd]; exact bytesRow_at s _ j hj
        rw [← hRd]
        clear hRd
        have HT8 := Lib.hid (show Below w7.heap.size w7 (w7.alloc (.cells R 5 (R.size, R.size + 1))).drew from ((Below.refl _ _).alloc (Nat.le_refl _) _).drew)
        have HG8 := Lib.hid (show (w7.alloc (.cells R 5 (R.size, R.size + 1))).drew.heap[w7.heap.size]? = some (.cells R 5 (R.size, R.size + 1)) from made_at _ _)
        generalize (w7.alloc (.cells R 5 (R.size, R.size + 1))).drew = W8 at HT8 HG8 ⊢
        generalize grownCap w7 64 0 5 = cap
        have HB8 := Lib.hid (below_step HB7.out HT8.out)
        have HZ8 := Lib.hid (later_at HT8.out HZ7.out)
        have HX8 := Lib.hid (later_at HT8.out HX7.out)
        have HGE := Lib.hid (show w.heap.size ≤ w7.heap.size from HB7.out.size)
        have HLT := Lib.hid (show w.heap.size + 1 < w7.heap.size from (Array.getElem?_eq_some_iff.1 HX7.out).1)
        generalize w7.heap.size = g at HG8 HGE HLT ⊢
        clear HT8 HB7 HZ7 HX7
        have hRq := hR q hqs
        obtain ⟨bq, hbq⟩ : ∃ bq, bq = s.data[q] := ⟨_, rfl⟩
        rw [← hbq] at hRq hcx hcne
        have HBQ := Lib.hid hbq
        clear hbq
        have hqR : q < R.size := (Array.getElem?_eq_some_iff.1 hRq).1
        have hcell : W8.drew.cell? ⟨g, q, none⟩ = some (.int .u8 (bq.toNat : Int)) := by show W8.cell? ⟨g, q, none⟩ = _; rw [cellH HG8.out, hRq]
        have hfree : W8.drew.frozen? ⟨g, q, none⟩ = false := by show W8.frozen? ⟨g, q, none⟩ = _; have := HG8.out; simp [World.frozen?, this]; omega
        refine wp_region_phase3 (IsW W8.drew) 10 1 (by kernel_rfl) (by kernel_rfl) rfl (by kernel_rfl) (by kernel_rfl) (by kernel_rfl) ⟨rfl⟩ ?_
        intro hne
        simp only [List.take_succ_cons, List.take_zero]
        have f0 : ∀ x : HeldW (IsW W8.drew), x.w.cell? ⟨g, q, none⟩ = some (.int .u8 (bq.toNat : Int)) := fun x => by rw [x.ok.eq]; exact hcell
        repeat (go_big_quiet_step (fail))
        refine wpQuiet_nil ?_
        rintro W9 ⟨⟨_, hF⟩, rfl⟩
        obtain rfl := hF.eq
        clear f0 hne
        refine one_ready (i := 10) (by kernel_rfl) (wpOp_step rfl (fun K' hK' => ?_))
        go_simp
        refine hK' _ _ ?_
        clear hK' K'
        refine ⟨by kernel_rfl, ?_⟩
        have HCV := Lib.hid (turned_conv (W := W8.drew) (g := g) (cap := cap) SA.out HG8.out hR q c)
        have HW9 := Lib.hid (show Below w.heap.size w (W8.drew.setCell ⟨g, q, none⟩ (.int .u8 (c.toNat : Int))) from (HB8.out.drew).setCell (by show w.heap.size ≤ g; have := HGE.out; omega) _)
        have HZ9 := Lib.hid (show (W8.drew.setCell ⟨g, q, none⟩ (.int .u8 (c.toNat : Int))).heap[w.heap.size]? = _ from (Below.heap_setCell _ ⟨g, q, none⟩ _ w.heap.size (by have := HLT.out; simp; omega)).trans HZ8.out)
        have HX9 := Lib.hid (show (W8.drew.setCell ⟨g, q, none⟩ (.int .u8 (c.toNat : Int))).heap[w.heap.size + 1]? = _ from (Below.heap_setCell _ ⟨g, q, none⟩ _ (w.heap.size + 1) (by have := HLT.out; simp; omega)).trans HX8.out)
        change Hid ((convert 52 9 (.slice (some ⟨g, 0, none⟩) 64 cap)).run Try.prog (W8.setCell ⟨g, q, none⟩ (.int .u8 (c.toNat : Int))).drew = .ok (.string (ofL ((bl s).set q c))) (W8.setCell ⟨g, q, none⟩ (.int .u8 (c.toNat : Int))).drew) at HCV
        change Hid (Below w.heap.size w (W8.setCell ⟨g, q, none⟩ (.int .u8 (c.toNat : Int))).drew) at HW9
        change Hid ((W8.setCell ⟨g, q, none⟩ (.int .u8 (c.toNat : Int))).drew.heap[w.heap.size]? = _) at HZ9
        change Hid ((W8.setCell ⟨g, q, none⟩ (.int .u8 (c.toNat : Int))).drew.heap[w.heap.size + 1]? = _) at HX9
        generalize (W8.setCell ⟨g, q, none⟩ (.int .u8 (c.toNat : Int))).drew = W9 at HCV HW9 HZ9 HX9 ⊢
        clear hcell hfree HG8 HB8 HZ8 HX8
        have HNO := Lib.hid (show readP (ofL ((bl s).set q c)) = none by
  rw [← HS0.out, bl_print]
  refine turned_none HOA.out q8 (fun e => hcne ?_)
  have hsq : (bl s)[q]? = some bq := by
    rw [HBQ.out]; exact (List.getElem?_eq_getElem (by rw [bl_len]; exact hqs)).trans rfl
  rw [← HS0.out, bl_print] at hsq
  rw [hsq] at e
  exact (Option.some.inj e).symm)
        obtain ⟨h, hh⟩ : ∃ h, h = ofL ((bl s).set q c) := ⟨_, rfl⟩
        rw [← hh] at HCV HNO
        have HRD := Lib.hid (HC.out.read h (by rw [hh, ofL_size, List.length_set, bl_len, SA.out]; decide))
        rw [HNO.out] at HRD
        change Hid (∀ w : World, Calls Try.prog 13 #[.string h] w fun e w' => e = .returned (.tuple #[.agg #[.int .u64 0, .int .i64 0, .int .i64 0, .int .i64 0, .int .i64 0, .string ⟨#[]⟩], .int .i64 3]) ∧ Below w.heap.size w w') at HRD
        clear hh
        have hcv := HCV.out
        go_wp2_with fail
        refine (HRD.out _).mono ?_
        rintro e w10 ⟨rfl, hb10⟩
        have HB10 := Lib.hid (below_step HW9.out hb10)
        have HZ11 := Lib.hid (later_at ((Below.refl _ _).alloc (Nat.le_refl _) (.cells #[.int .u64 0, .int .i64 0, .int .i64 0, .int .i64 0, .int .i64 0, .string ⟨#[]⟩] 24)) (later_at hb10 HZ9.out))
        have HX11 := Lib.hid (later_at ((Below.refl _ _).alloc (Nat.le_refl _) (.cells #[.int .u64 0, .int .i64 0, .int .i64 0, .int .i64 0, .int .i64 0, .string ⟨#[]⟩] 24)) (later_at hb10 HX9.out))
        clear hcv hb10 HCV HW9 HZ9 HX9
        have z0 := cellH HZ11.out 0
        have z1 := cellH HZ11.out 1
        have z2 := cellH HZ11.out 2
        have z3 := cellH HZ11.out 3
        have z4 := cellH HZ11.out 4
        have z5 := cellH HZ11.out 5
        have zf := freeH HZ11.out
        have x0 := cellH HX11.out 0
        have x1 := cellH HX11.out 1
        have x2 := cellH HX11.out 2
        have x3 := cellH HX11.out 3
        have x4 := cellH HX11.out 4
        have x5 := cellH HX11.out 5
        have xf := freeH HX11.out
        simp at z0 z1 z2 z3 z4 z5 x0 x1 x2 x3 x4 x5
        obtain ⟨rb, hst, hab⟩ := HEQ.out
        cases rb
        · have hst2 : ¬ s.toList = t.toList := by simpa using hst
          go_wp2_with fail
          refine bodyPost_ret (v := .bool true) (by simp [results, Try.results6, go_sem]) rfl ⟨rfl, ?_⟩
          exact HB10.out.alloc HB10.out.size _
        · have hst2 : s.toList = t.toList := by simpa using hst
          go_wp2_with fail
          refine bodyPost_ret (v := .bool true) (by simp [results, Try.results6, go_sem]) rfl ⟨rfl, ?_⟩
          exact HB10.out.alloc HB10.out.size _
end Go.Proofs.Ytblmempidngcgaa
