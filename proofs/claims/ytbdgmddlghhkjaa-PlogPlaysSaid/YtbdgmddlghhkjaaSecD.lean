/-
  What the document's Read (package lockageref04) answers, given what its Print does. No conditions but a text's length.
-/
import Derived.Test.YtbdgmddlghhkjaaSecC
import Derived.Test.YtbdgmddlghhkjaaFirst
import Derived.Test.YtbdgmddlghhkjaaPhaseB
import Derived.Deep.RegionLaw
namespace Go.Proofs.Ytbdgmddlghhkjaa
open Go.RowKit

theorem valB_one (s : ByteArray) (hs : s.size = 64) : valB (s.extract 18 19) = (s[18]'(by omega)).toNat := by
  have h : bl (s.extract 18 19) = [s[18]'(by omega)] := by
    rw [show (19 : Nat) = 18 + 1 from rfl, bl_mid]
    unfold mid
    have hl : 18 < (bl s).length := by rw [bl_len]; omega
    rw [List.drop_eq_getElem_cons hl, List.take_succ_cons, List.take_zero]
    rfl
  rw [valB, h]
  simp [valL]
abbrev pcV (p : Pc) : Value := .agg #[.int .u64 p.stamp, .int .i64 p.gen, .int .i64 p.no, .int .i64 p.idx, .int .i64 p.tot, .string p.data]

theorem cellH {w : World} {g : Nat} {cs : Array Value} {t : TypeId} {m : Nat × Nat} (h : w.heap[g]? = some (.cells cs t m)) (i : Nat) : w.cell? ⟨g, i, none⟩ = cs[i]? := by simp [World.cell?, h]
theorem freeH {w : World} {g : Nat} {cs : Array Value} {t : TypeId} (h : w.heap[g]? = some (.cells cs t (0, 0))) : ∀ i, w.frozen? ⟨g, i, none⟩ = false := fun i => by simp [World.frozen?, h]
theorem readP_size {s : ByteArray} (h : s.size ≠ 64) : readP s = none := by unfold readP; rw [if_neg (fun k => h k.1)]
theorem readP_long {s : ByteArray} (h : 37 < valB (s.extract 18 19)) : readP s = none := by unfold readP; rw [if_neg (fun k => by omega)]

set_option maxHeartbeats 1000000 in
set_option maxRecDepth 100000 in
theorem refread_no (s : ByteArray) (h : s.size ≠ 64 ∨ ∃ hs : s.size = 64, 37 < (s[18]'(by omega)).toNat) (w : World) :
    Calls Try.prog 34 #[.string s] w fun e w' => e = .returned (.tuple #[pcV noPc, .bool false]) ∧ Below w.heap.size w w' := by
  by_cases hs : s.size = 64
  · have h2 : 37 < (s[18]'(by omega)).toNat := by rcases h with h | ⟨_, h⟩; exact absurd hs h; exact h
    have hsb : ((s.size : Int) != 64) = false := by simp [hs]
    generalize hb : (s[18]'(by omega)) = b at h2
    have h3 : (37 : Int) < b.toNat := by omega
    go_enter Try.func34, Try.ntmps34
    go_wp2_with fail
    refine bodyPost_ret (v := .tuple #[pcV noPc, .bool false]) (by simp [results, Try.results34, go_sem, pcV, noPc]) rfl ⟨rfl, ?_⟩
    exact (Below.refl w.heap.size w).alloc (Nat.le_refl _) _
  · have hsb : ((s.size : Int) != 64) = true := by simp; omega
    go_enter Try.func34, Try.ntmps34
    go_wp2_with fail
    refine bodyPost_ret (v := .tuple #[pcV noPc, .bool false]) (by simp [results, Try.results34, go_sem, pcV, noPc]) rfl ⟨rfl, ?_⟩
    exact (Below.refl w.heap.size w).alloc (Nat.le_refl _) _

set_option maxHeartbeats 1000000 in
set_option maxRecDepth 100000 in
theorem refread_yes (PR : ∀ (p : Pc), p.Ok → p.Fits → ∀ w : World, Calls Try.prog 48 #[pcV p] w fun e w' => e = .returned (.string (printB p)) ∧ Below w.heap.size w w')
    (s : ByteArray) (hs : s.size = 64) (h37 : (s[18]'(by omega)).toNat ≤ 37) (w : World) :
    Calls Try.prog 34 #[.string s] w fun e w' => e = .returned (.tuple #[pcV ((readP s).getD noPc), .bool (readP s).isSome]) ∧ Below w.heap.size w w' := by
  have hsb : ((s.size : Int) != 64) = false := by simp [hs]
  have hv := valB_one s hs
  have r0 := valB_range (s := s.extract 0 8) (k := 8) (by rw [ByteArray.size_extract]; omega)
  have r1 := valB_range (s := s.extract 8 12) (k := 4) (by rw [ByteArray.size_extract]; omega)
  have r2 := valB_range (s := s.extract 12 14) (k := 2) (by rw [ByteArray.size_extract]; omega)
  have r3 := valB_range (s := s.extract 14 16) (k := 2) (by rw [ByteArray.size_extract]; omega)
  have r4 := valB_range (s := s.extract 16 18) (k := 2) (by rw [ByteArray.size_extract]; omega)
  have q0 := Lib.hid (fun w : World => refvalue_is (s.extract 0 8) (by rw [ByteArray.size_extract]; omega) w)
  have q1 := Lib.hid (fun w : World => refvalue_is (s.extract 8 12) (by rw [ByteArray.size_extract]; omega) w)
  have q2 := Lib.hid (fun w : World => refvalue_is (s.extract 12 14) (by rw [ByteArray.size_extract]; omega) w)
  have q3 := Lib.hid (fun w : World => refvalue_is (s.extract 14 16) (by rw [ByteArray.size_extract]; omega) w)
  have q4 := Lib.hid (fun w : World => refvalue_is (s.extract 16 18) (by rw [ByteArray.size_extract]; omega) w)
  generalize hb : (s[18]'(by omega)) = b at h37 hv
  obtain ⟨n, hn⟩ : ∃ n : Nat, n = b.toNat := ⟨_, rfl⟩
  have hc := Lib.hid (show cutP s = ⟨valB (s.extract 0 8), valB (s.extract 8 12), valB (s.extract 12 14), valB (s.extract 14 16), valB (s.extract 16 18), s.extract 19 (19 + n)⟩ by
    unfold cutP
    rw [hv, hn, Int.toNat_natCast])
  have h4 : b.toNat ≤ 37 := h37
  have h3 : ¬ (37 : Int) < b.toNat := by omega
  obtain ⟨r00, r01⟩ := r0
  obtain ⟨r10, r11⟩ := r1
  obtain ⟨r20, r21⟩ := r2
  obtain ⟨r30, r31⟩ := r3
  obtain ⟨r40, r41⟩ := r4
  simp at r01 r11 r21 r31 r41
  have wb : IntKind.i64.wrap (b.toNat : Int) = b.toNat := by rw [IntKind.wrap_i64]; omega
  have wc : IntKind.i64.wrap (19 + (b.toNat : Int)) = 19 + b.toNat := by rw [IntKind.wrap_i64]; omega
  have wd : (0 : Int) ≤ 19 + b.toNat := by omega
  have we : (19 : Int) + b.toNat ≤ 64 := by omega
  have wf : (19 : Int) ≤ 19 + b.toNat := by omega
  have wg : ((19 : Int) + b.toNat).toNat = 19 + b.toNat := by omega
  have w1 : IntKind.i64.wrap (valB (s.extract 8 12)) = valB (s.extract 8 12) := by rw [IntKind.wrap_i64]; omega
  have w2 : IntKind.i64.wrap (valB (s.extract 12 14)) = valB (s.extract 12 14) := by rw [IntKind.wrap_i64]; omega
  have w3 : IntKind.i64.wrap (valB (s.extract 14 16)) = valB (s.extract 14 16) := by rw [IntKind.wrap_i64]; omega
  have w4 : IntKind.i64.wrap (valB (s.extract 16 18)) = valB (s.extract 16 18) := by rw [IntKind.wrap_i64]; omega
  subst hn
  go_enter Try.func34, Try.ntmps34
  go_wp2_with fail
  refine wp_region_first 26 2 (by kernel_rfl) (by kernel_rfl) rfl (by kernel_rfl) (fun _ _ _ _ _ h => h) ?_
  simp only [List.take_succ_cons, List.take_zero]
  (refine stillL_val _ (fun w => (by go_simp; try with_reducible rfl)) ?_; simp only [Act.put, List.setIfInBounds_toArray, List.set_cons_zero, List.set_cons_succ])
  (refine stillL_val _ (fun w => (by go_simp; try with_reducible rfl)) ?_; simp only [Act.put, List.setIfInBounds_toArray, List.set_cons_zero, List.set_cons_succ])
  (refine stillL_call _ 46 _ (fun w => (by go_simp; try with_reducible rfl)) q0.out ?_; simp only [Act.put, List.setIfInBounds_toArray, List.set_cons_zero, List.set_cons_succ])
  (refine stillL_val _ (fun w => (by go_simp; try with_reducible rfl)) ?_; simp only [Act.put, List.setIfInBounds_toArray, List.set_cons_zero, List.set_cons_succ])
  (refine stillL_val _ (fun w => (by go_simp; try with_reducible rfl)) ?_; simp only [Act.put, List.setIfInBounds_toArray, List.set_cons_zero, List.set_cons_succ])
  (refine stillL_call _ 46 _ (fun w => (by go_simp; try with_reducible rfl)) q1.out ?_; simp only [Act.put, List.setIfInBounds_toArray, List.set_cons_zero, List.set_cons_succ])
  (refine stillL_val _ (fun w => (by go_simp; try with_reducible rfl)) ?_; simp only [Act.put, List.setIfInBounds_toArray, List.set_cons_zero, List.set_cons_succ])
  (refine stillL_val _ (fun w => (by go_simp; try with_reducible rfl)) ?_; simp only [Act.put, List.setIfInBounds_toArray, List.set_cons_zero, List.set_cons_succ])
  (refine stillL_val _ (fun w => (by go_simp; try with_reducible rfl)) ?_; simp only [Act.put, List.setIfInBounds_toArray, List.set_cons_zero, List.set_cons_succ])
  (refine stillL_call _ 46 _ (fun w => (by go_simp; try with_reducible rfl)) q2.out ?_; simp only [Act.put, List.setIfInBounds_toArray, List.set_cons_zero, List.set_cons_succ])
  (refine stillL_val _ (fun w => (by go_simp; try with_reducible rfl)) ?_; simp only [Act.put, List.setIfInBounds_toArray, List.set_cons_zero, List.set_cons_succ])
  (refine stillL_val _ (fun w => (by go_simp; try with_reducible rfl)) ?_; simp only [Act.put, List.setIfInBounds_toArray, List.set_cons_zero, List.set_cons_succ])
  (refine stillL_val _ (fun w => (by go_simp; try with_reducible rfl)) ?_; simp only [Act.put, List.setIfInBounds_toArray, List.set_cons_zero, List.set_cons_succ])
  (refine stillL_call _ 46 _ (fun w => (by go_simp; try with_reducible rfl)) q3.out ?_; simp only [Act.put, List.setIfInBounds_toArray, List.set_cons_zero, List.set_cons_succ])
  (refine stillL_val _ (fun w => (by go_simp; try with_reducible rfl)) ?_; simp only [Act.put, List.setIfInBounds_toArray, List.set_cons_zero, List.set_cons_succ])
  (refine stillL_val _ (fun w => (by go_simp; try with_reducible rfl)) ?_; simp only [Act.put, List.setIfInBounds_toArray, List.set_cons_zero, List.set_cons_succ])
  (refine stillL_val _ (fun w => (by go_simp; try with_reducible rfl)) ?_; simp only [Act.put, List.setIfInBounds_toArray, List.set_cons_zero, List.set_cons_succ])
  (refine stillL_call _ 46 _ (fun w => (by go_simp; try with_reducible rfl)) q4.out ?_; simp only [Act.put, List.setIfInBounds_toArray, List.set_cons_zero, List.set_cons_succ])
  (refine stillL_val _ (fun w => (by go_simp; try with_reducible rfl)) ?_; simp only [Act.put, List.setIfInBounds_toArray, List.set_cons_zero, List.set_cons_succ])
  (refine stillL_val _ (fun w => (by go_simp; try with_reducible rfl)) ?_; simp only [Act.put, List.setIfInBounds_toArray, List.set_cons_zero, List.set_cons_succ])
  (refine stillL_val _ (fun w => (by go_simp; try with_reducible rfl)) ?_; simp only [Act.put, List.setIfInBounds_toArray, List.set_cons_zero, List.set_cons_succ])
  (refine stillL_val _ (fun w => (by go_simp; try with_reducible rfl)) ?_; simp only [Act.put, List.setIfInBounds_toArray, List.set_cons_zero, List.set_cons_succ])
  (refine stillL_val _ (fun w => (by go_simp; try with_reducible rfl)) ?_; simp only [Act.put, List.setIfInBounds_toArray, List.set_cons_zero, List.set_cons_succ])
  (refine stillL_val _ (fun w => (by go_simp; try with_reducible rfl)) ?_; simp only [Act.put, List.setIfInBounds_toArray, List.set_cons_zero, List.set_cons_succ])
  (refine stillL_val _ (fun w => (by go_simp; try with_reducible rfl)) ?_; simp only [Act.put, List.setIfInBounds_toArray, List.set_cons_zero, List.set_cons_succ])
  (refine stillL_val _ (fun w => (by go_simp; try with_reducible rfl)) ?_; simp only [Act.put, List.setIfInBounds_toArray, List.set_cons_zero, List.set_cons_succ])
  show wpAny _ _ _ _ 2 _ _ _
  refine one_ready (i := 26) (by kernel_rfl) (wpOp_step rfl (fun K' hK' => ?_))
  go_simp
  refine hK' _ _ ?_
  clear hK' K'
  refine one_ready (i := 27) (by kernel_rfl) (wpOp_step rfl (fun K' hK' => ?_))
  go_simp
  refine hK' _ _ ?_
  clear hK' K'
  refine ⟨by kernel_rfl, ?_⟩
  have hZ : ((w.alloc (.cells #[.int .u64 0, .int .i64 0, .int .i64 0, .int .i64 0, .int .i64 0, .string ⟨#[]⟩] 75)).alloc (.cells #[.int .u64 (valB (s.extract 0 8)), .int .i64 (valB (s.extract 8 12)), .int .i64 (valB (s.extract 12 14)), .int .i64 (valB (s.extract 14 16)), .int .i64 (valB (s.extract 16 18)), .string (s.extract 19 (19 + b.toNat))] 75)).drew.heap[w.heap.size]? = some (.cells #[.int .u64 0, .int .i64 0, .int .i64 0, .int .i64 0, .int .i64 0, .string ⟨#[]⟩] 75 (0, 0)) := by
    show ((w.heap.push _).push _)[w.heap.size]? = _
    rw [Array.getElem?_push, if_neg (by simp), Array.getElem?_push, if_pos rfl]
  have hP : ((w.alloc (.cells #[.int .u64 0, .int .i64 0, .int .i64 0, .int .i64 0, .int .i64 0, .string ⟨#[]⟩] 75)).alloc (.cells #[.int .u64 (valB (s.extract 0 8)), .int .i64 (valB (s.extract 8 12)), .int .i64 (valB (s.extract 12 14)), .int .i64 (valB (s.extract 14 16)), .int .i64 (valB (s.extract 16 18)), .string (s.extract 19 (19 + b.toNat))] 75)).drew.heap[w.heap.size + 1]? = some (.cells #[.int .u64 (valB (s.extract 0 8)), .int .i64 (valB (s.extract 8 12)), .int .i64 (valB (s.extract 12 14)), .int .i64 (valB (s.extract 14 16)), .int .i64 (valB (s.extract 16 18)), .string (s.extract 19 (19 + b.toNat))] 75 (0, 0)) := by
    show ((w.heap.push _).push _)[w.heap.size + 1]? = _
    rw [Array.getElem?_push, if_pos (by simp)]
  have hB : Below w.heap.size w ((w.alloc (.cells #[.int .u64 0, .int .i64 0, .int .i64 0, .int .i64 0, .int .i64 0, .string ⟨#[]⟩] 75)).alloc (.cells #[.int .u64 (valB (s.extract 0 8)), .int .i64 (valB (s.extract 8 12)), .int .i64 (valB (s.extract 12 14)), .int .i64 (valB (s.extract 14 16)), .int .i64 (valB (s.extract 16 18)), .string (s.extract 19 (19 + b.toNat))] 75)).drew := (((Below.refl w.heap.size w).alloc (Nat.le_refl _) _).alloc (by simp) _).drew
  have HZ := Lib.hid hZ
  have HP := Lib.hid hP
  have HB := Lib.hid hB
  have HPR := Lib.hid PR
  have hf : (⟨valB (s.extract 0 8), valB (s.extract 8 12), valB (s.extract 12 14), valB (s.extract 14 16), valB (s.extract 16 18), s.extract 19 (19 + b.toNat)⟩ : Pc).Fits := ⟨r00, r01⟩
  have HF := Lib.hid hf
  have HV := Lib.hid hv
  clear hZ hP hB PR hf w1 w2 w3 w4 wb wc wd we wf wg q0 q1 q2 q3 q4 hv hsb
  go_wp2_with fail
  refine (refright_is _ _ _ _ _ _ _).mono ?_
  rintro e w3 ⟨rfl, hb3⟩
  have HZ3 := Lib.hid (later_at hb3 HZ.out)
  have HP3 := Lib.hid (later_at hb3 HP.out)
  have HB3 := Lib.hid (HB.out.trans (hb3.mono (by have := HB.out.size; exact this)))
  clear HZ HP HB hb3
  have z0 := cellH HZ3.out 0
  have z1 := cellH HZ3.out 1
  have z2 := cellH HZ3.out 2
  have z3 := cellH HZ3.out 3
  have z4 := cellH HZ3.out 4
  have z5 := cellH HZ3.out 5
  have zf := freeH HZ3.out
  have x0 := cellH HP3.out 0
  have x1 := cellH HP3.out 1
  have x2 := cellH HP3.out 2
  have x3 := cellH HP3.out 3
  have x4 := cellH HP3.out 4
  have x5 := cellH HP3.out 5
  simp at z0 z1 z2 z3 z4 z5 x0 x1 x2 x3 x4 x5
  cases hr : rightP ⟨valB (s.extract 0 8), valB (s.extract 8 12), valB (s.extract 12 14), valB (s.extract 14 16), valB (s.extract 16 18), s.extract 19 (19 + b.toNat)⟩
  · have hno : readP s = none := by
      unfold readP
      rw [if_neg (fun k => by rw [hc.out, hr] at k; exact absurd k.2.2.1 (by simp))]
    have HNO := Lib.hid hno
    clear hno
    go_wp2_with fail
    refine bodyPost_ret (v := .tuple #[pcV noPc, .bool false]) (by simp [results, Try.results34, go_sem, pcV, noPc, z0, z1, z2, z3, z4, z5]) rfl ⟨by rw [HNO.out]; rfl, ?_⟩
    repeat (refine Below.setCell ?_ (by simp) _)
    exact HB3.out
  · have hok := Lib.hid ((rightP_iff _).1 hr)
    by_cases hps : printB ⟨valB (s.extract 0 8), valB (s.extract 8 12), valB (s.extract 12 14), valB (s.extract 14 16), valB (s.extract 16 18), s.extract 19 (19 + b.toNat)⟩ = s
    · have hyes : readP s = some ⟨valB (s.extract 0 8), valB (s.extract 8 12), valB (s.extract 12 14), valB (s.extract 14 16), valB (s.extract 16 18), s.extract 19 (19 + b.toNat)⟩ := by
        unfold readP
        rw [if_pos ⟨hs, by rw [HV.out]; omega, by rw [hc.out]; exact hr, by rw [hc.out]; exact hps⟩, hc.out]
      have HYES := Lib.hid hyes
      have hbq : (s.toList == s.toList) = true := by simp
      have HPS := Lib.hid hps
      clear hyes hps
      go_wp2_with fail
      refine (HPR.out _ hok.out HF.out _).mono ?_
      rintro e w4 ⟨rfl, hb4⟩
      rw [HPS.out]
      have HZ4 := Lib.hid (later_at hb4 HZ3.out)
      have HP4 := Lib.hid (later_at hb4 HP3.out)
      have HB4 := Lib.hid (HB3.out.trans (hb4.mono HB3.out.size))
      clear HB3 hb4 z0 z1 z2 z3 z4 z5 zf x0 x1 x2 x3 x4 x5 HZ3 HP3
      have z0 := cellH HZ4.out 0
      have z1 := cellH HZ4.out 1
      have z2 := cellH HZ4.out 2
      have z3 := cellH HZ4.out 3
      have z4 := cellH HZ4.out 4
      have z5 := cellH HZ4.out 5
      have zf := freeH HZ4.out
      have x0 := cellH HP4.out 0
      have x1 := cellH HP4.out 1
      have x2 := cellH HP4.out 2
      have x3 := cellH HP4.out 3
      have x4 := cellH HP4.out 4
      have x5 := cellH HP4.out 5
      simp at z0 z1 z2 z3 z4 z5 x0 x1 x2 x3 x4 x5
      go_wp2_with fail
      refine bodyPost_ret (v := .tuple #[pcV ⟨valB (s.extract 0 8), valB (s.extract 8 12), valB (s.extract 12 14), valB (s.extract 14 16), valB (s.extract 16 18), s.extract 19 (19 + b.toNat)⟩, .bool true]) (by simp [results, Try.results34, go_sem, pcV, z0, z1, z2, z3, z4, z5]) rfl ⟨by rw [HYES.out]; rfl, ?_⟩
      repeat (refine Below.setCell ?_ (by simp) _)
      exact HB4.out
    · have hno : readP s = none := by
        unfold readP
        rw [if_neg (fun k => by rw [hc.out] at k; exact hps k.2.2.2)]
      have HNO := Lib.hid hno
      have hbq : ((printB ⟨valB (s.extract 0 8), valB (s.extract 8 12), valB (s.extract 12 14), valB (s.extract 14 16), valB (s.extract 16 18), s.extract 19 (19 + b.toNat)⟩).toList == s.toList) = false := by rw [ba_beq]; exact decide_eq_false hps
      clear hno hps
      go_wp2_with fail
      refine (HPR.out _ hok.out HF.out _).mono ?_
      rintro e w4 ⟨rfl, hb4⟩
      have HZ4 := Lib.hid (later_at hb4 HZ3.out)
      have HB4 := Lib.hid (HB3.out.trans (hb4.mono HB3.out.size))
      clear HB3 hb4 z0 z1 z2 z3 z4 z5 zf x0 x1 x2 x3 x4 x5 HZ3 HP3
      have z0 := cellH HZ4.out 0
      have z1 := cellH HZ4.out 1
      have z2 := cellH HZ4.out 2
      have z3 := cellH HZ4.out 3
      have z4 := cellH HZ4.out 4
      have z5 := cellH HZ4.out 5
      have zf := freeH HZ4.out
      simp at z0 z1 z2 z3 z4 z5
      go_wp2_with fail
      refine bodyPost_ret (v := .tuple #[pcV noPc, .bool false]) (by simp [results, Try.results34, go_sem, pcV, noPc, z0, z1, z2, z3, z4, z5]) rfl ⟨by rw [HNO.out]; rfl, ?_⟩
      repeat (refine Below.setCell ?_ (by simp) _)
      exact HB4.out
theorem refread_is (PR : ∀ (p : Pc), p.Ok → p.Fits → ∀ w : World, Calls Try.prog 48 #[pcV p] w fun e w' => e = .returned (.string (printB p)) ∧ Below w.heap.size w w') (s : ByteArray) (w : World) :
    Calls Try.prog 34 #[.string s] w fun e w' => e = .returned (.tuple #[pcV ((readP s).getD noPc), .bool (readP s).isSome]) ∧ Below w.heap.size w w' := by
  by_cases hs : s.size = 64
  · by_cases h : (s[18]'(by omega)).toNat ≤ 37
    · exact refread_yes PR s hs h w
    · have hn : readP s = none := readP_long (by rw [valB_one s hs]; omega)
      rw [hn]
      exact refread_no s (.inr ⟨hs, by omega⟩) w
  · rw [readP_size hs]
    exact refread_no s (.inl hs) w
end Go.Proofs.Ytbdgmddlghhkjaa
