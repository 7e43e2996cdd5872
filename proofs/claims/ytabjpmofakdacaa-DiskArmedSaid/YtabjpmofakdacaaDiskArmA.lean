/-
  The law DiskArmed, walked. No conditions.
-/
import Derived.Test.YtabjpmofakdacaaDiskR
import Derived.Outline
namespace Go.Proofs.Ytabjpmofakdacaa
open Go.RowKit

theorem below_step {w a b : World} (h : Below w.heap.size w a) (k : Below a.heap.size a b) : Below w.heap.size w b := h.trans (k.mono h.size)

/-- Behind k writes of an armed power, none of which it is. -/
structure ArmS (m k : Nat) (b : Int) (st : Dk) : Prop where
  off : st.off = false
  armed : st.armed = (m : Int) - k
  bits : st.bits = b
  kept : st.kept.length = 30
  cache : st.cache.length = k
  writes : st.writes = k
section
variable {m k : Nat} {b : Int} {st : Dk}
theorem ArmS.out {a : Int} (h : ArmS m k b st) (h0 : 0 ≤ a) (h1 : a < 30) : outB st a = false := by simp [outB, h.kept]; omega
theorem ArmS.next {a : Int} {s : ByteArray} (h : ArmS m k b st) (hs : s.size = 64) (hk : k + 1 < m) (h0 : 0 ≤ a) (h1 : a < 30) : ArmS m (k + 1) b (writeS st a s) ∧ writeE st a s = 0 := by
  have ha := h.armed
  constructor
  · unfold writeS
    rw [h.off, h.out h0 h1, if_neg (by simp), if_neg (by simp), if_neg (by simp [hs]), if_neg (by omega)]
    refine ⟨h.off, ?_, h.bits, h.kept, ?_, ?_⟩
    · simp only [putS]
      rw [if_pos (by omega)]
      omega
    · simp [putS, h.cache]
    · simp [putS, h.writes]
  · unfold writeE
    rw [h.off, h.out h0 h1, if_neg (by simp), if_neg (by simp), if_neg (by simp [hs]), if_neg (by omega)]
theorem ArmS.last {a : Int} {s : ByteArray} (h : ArmS m k b st) (hs : s.size = 64) (hk : k + 1 = m) (h0 : 0 ≤ a) (h1 : a < 30) : writeE st a s = 5 ∧ (writeS st a s).off = true ∧ (writeS st a s).writes = m ∧ (writeS st a s).kept.length = 30 ∧ (writeS st a s).cache.length = 0 := by
  have ha := h.armed
  have e : writeS st a s = crashS (putS st a s) st.bits := by
    unfold writeS
    rw [h.off, h.out h0 h1, if_neg (by simp), if_neg (by simp), if_neg (by simp [hs]), if_pos (by omega)]
  have e1 : (putS st a s).off = false := h.off
  refine ⟨?_, ?_, ?_, ?_, ?_⟩
  · unfold writeE
    rw [h.off, h.out h0 h1, if_neg (by simp), if_neg (by simp), if_neg (by simp [hs]), if_pos (by omega)]
  all_goals
    rw [e]
    unfold crashS
    rw [e1, if_neg (by simp)]
  · simp [putS, h.writes]
    omega
  · simp [putS, keptTo_len, h.kept]
  · rfl
theorem write_off {a : Int} {s : ByteArray} (h : st.off = true) : writeE st a s = 5 ∧ writeS st a s = st := by simp [writeE, writeS, h]
theorem write_fresh {a : Int} {s : ByteArray} (h : st.kept.length = 30) (hs : s.size = 64) (h0 : 0 ≤ a) (h1 : a < 30) : writeE (startS st) a s = 0 := by
  have e : outB (startS st) a = false := by simp [outB, startS, h]; omega
  unfold writeE
  rw [e]
  simp [startS, hs]
end

theorem arm_count (n : Int) : ∃ m : Nat, wrap64 (1 + wrap64 ((IntKind.u64.wrap n).tmod 30)) = m ∧ 1 ≤ m ∧ m ≤ 30 := by
  have h0 : 0 ≤ IntKind.u64.wrap n := by rw [IntKind.wrap_u64]; omega
  have e : (IntKind.u64.wrap n).tmod 30 = IntKind.u64.wrap n % 30 := Int.tmod_eq_emod_of_nonneg h0
  rw [e]
  generalize IntKind.u64.wrap n = z at h0
  refine ⟨(1 + z % 30).toNat, ?_, by omega, by omega⟩
  unfold wrap64
  omega

section
variable (w : World)
set_option maxHeartbeats 1000000 in
theorem armed_walk (n b : Int) (_hn : -9223372036854775808 ≤ n ∧ n ≤ 9223372036854775807) (hb : 0 ≤ b ∧ b ≤ 18446744073709551615) :
    Calls Try.prog 8 #[.int .i64 n, .int .u64 b] w fun e w' => e = .returned (.bool true) ∧ Below w.heap.size w w' := by
  go_enter Try.func8, Try.ntmps8
  obtain ⟨m, hm, hm1, hm2⟩ := arm_count n
  go_wp2_with fail
  simp only [hm]
  clear hm
  refine (dnew_yes 30 _ (by omega) (by omega)).mono ?_
  rintro e w1 ⟨D, rfl, hd1, hb1⟩
  have HD1 := Lib.hid hd1
  have HB1 := Lib.hid hb1
  clear hd1 hb1
  go_wp2_with fail
  refine (awake_true _).mono ?_
  rintro e w2 ⟨rfl, hb2⟩
  have HD2 := Lib.hid (diskAt_frame HD1.out (OnlyT.of_below hb2))
  have HB2 := Lib.hid (below_step HB1.out hb2)
  clear HD1 hb2
  go_wp2_with fail
  refine (darm_is HD2.out m b (by omega) hb.1 (by omega)).mono ?_
  rintro e w3 ⟨rfl, hd3, ho3⟩
  have HD3 := Lib.hid hd3
  have HB3 := Lib.hid (HB2.out.trans (ho3.below HB2.out.size))
  clear HD2 HB2 HB1 hd3 ho3
  go_wp2_with fail
  go_loopw [7] (fun j wr => ∃ (k : Nat) (st : Dk), k + 1 ≤ m ∧ j = .int .i64 ((k : Int) + 1) ∧ ArmS m k b st ∧ DiskAt wr w.heap.size D st ∧ Below w.heap.size w wr) (fun j _ => m - (intOf j).toNat)
  case atStart => exact ⟨0, _, hm1, rfl, ⟨rfl, by simp [armS, newS], rfl, by simp [armS, newS], rfl, rfl⟩, HD3.out, HB3.out⟩
  case round =>
    clear HD3 HB3
    obtain ⟨k, st, hk, rfl, hS, hD, hB⟩ := hrel
    have HS := Lib.hid hS
    have HD := Lib.hid hD
    have HB := Lib.hid hB
    clear hS hD hB
    have hl : (ByteArray.mk #[120]).size ≤ maxLen := by decide
    have hk1 : st.cache.length < 1000000 := by rw [HS.out.cache]; omega
    have hk2 : st.writes ≤ 1000000 := by rw [HS.out.writes]; omega
    by_cases hlt : k + 1 < m
    · obtain ⟨hn1, hn2⟩ := HS.out.next (a := k) (fillB_size ⟨#[120]⟩) hlt (by omega) (by omega)
      have HN1 := Lib.hid hn1
      have HN2 := Lib.hid hn2
      clear hn1 hn2
      go_wp2_with fail
      refine (fill_is _ hl _).mono ?_
      rintro e _ ⟨rfl, rfl⟩
      go_wp2_with fail
      refine (dwrite_is HD.out HB.out.size hk1 hk2 _ _).mono ?_
      rintro e w5 ⟨rfl, hd5, ho5⟩
      rw [HN2.out]
      have HD5 := Lib.hid hd5
      have HB5 := Lib.hid (HB.out.trans (ho5.below HB.out.size))
      clear hd5 ho5 HD HB
      have hoff := HN1.out.off
      go_wp2_with fail
      refine (ddown_is HD5.out).mono ?_
      rintro e _ ⟨rfl, rfl⟩
      rw [hoff]
      clear hoff
      go_wp2_with fail
      go_roundw
      case rel => exact ⟨k + 1, _, by omega, by go_num, HN1.out, HD5.out, HB5.out⟩
      case measure => simp [intOf]; omega
    · have hkm : k + 1 = m := by omega
      obtain ⟨l1, l2, l3, l4, l5⟩ := HS.out.last (a := k) (s := fillB ⟨#[120]⟩) (fillB_size ⟨#[120]⟩) hkm (by omega) (by omega)
      have L1 := Lib.hid l1
      have L2 := Lib.hid l2
      have L3 := Lib.hid l3
      have L4 := Lib.hid l4
      have L5 := Lib.hid l5
      have hm1' : (m : Int) - 1 = k := by omega
      clear l1 l2 l3 l4 l5
      go_wp2_with fail
      refine (fill_is _ hl _).mono ?_
      rintro e _ ⟨rfl, rfl⟩
      go_wp2_with fail
      refine (dwrite_is HD.out HB.out.size hk1 hk2 _ _).mono ?_
      rintro e w5 ⟨rfl, hd5, ho5⟩
      rw [L1.out]
      have HD5 := Lib.hid hd5
      have HB5 := Lib.hid (HB.out.trans (ho5.below HB.out.size))
      clear hd5 ho5 HD HB HS
      generalize writeS st k (fillB ⟨#[120]⟩) = s5 at HD5 L2 L3 L4 L5
      go_wp2_with fail
      refine (ddown_is HD5.out).mono ?_
      rintro e _ ⟨rfl, rfl⟩
      rw [L2.out]
      have hl2 : (ByteArray.mk #[121]).size ≤ maxLen := by decide
      go_wp2_with fail
      refine (fill_is _ hl2 _).mono ?_
      rintro e _ ⟨rfl, rfl⟩
      go_wp2_with fail
      obtain ⟨o1, o2⟩ := write_off (a := 0) (s := fillB ⟨#[121]⟩) L2.out
      have O1 := Lib.hid o1
      have O2 := Lib.hid o2
      clear o1 o2
      refine (dwrite_is HD5.out HB5.out.size (by rw [L5.out]; omega) (by rw [L3.out]; omega) _ _).mono ?_
      rintro e w6 ⟨rfl, hd6, ho6⟩
      rw [O1.out]
      rw [O2.out] at hd6
      have HD6 := Lib.hid hd6
      have HB6 := Lib.hid (HB5.out.trans (ho6.below HB5.out.size))
      clear hd6 ho6 HD5 HB5 O1 O2
      go_wp2_with fail
      refine (dwrites_is HD6.out).mono ?_
      rintro e _ ⟨rfl, rfl⟩
      rw [L3.out]
      go_wp2_with fail
      refine (dstart_is HD6.out).mono ?_
      rintro e w7 ⟨rfl, hd7, ho7⟩
      have HD7 := Lib.hid hd7
      have HB7 := Lib.hid (HB6.out.trans (ho7.below HB6.out.size))
      clear hd7 ho7 HD6 HB6
      go_wp2_with fail
      refine (ddown_is HD7.out).mono ?_
      rintro e _ ⟨rfl, rfl⟩
      have hoff : (startS s5).off = false := rfl
      rw [hoff]
      clear hoff
      have hl3 : (ByteArray.mk #[122]).size ≤ maxLen := by decide
      go_wp2_with fail
      refine (fill_is _ hl3 _).mono ?_
      rintro e _ ⟨rfl, rfl⟩
      go_wp2_with fail
      refine (dwrite_is HD7.out HB7.out.size (by show s5.cache.length < _; rw [L5.out]; omega) (by show s5.writes ≤ _; rw [L3.out]; omega) _ _).mono ?_
      rintro e w8 ⟨rfl, hd8, ho8⟩
      rw [write_fresh L4.out (fillB_size _) (by omega) (by omega)]
      have HB8 := Lib.hid (HB7.out.trans (ho8.below HB7.out.size))
      clear hd8 ho8 HD7 HB7
      go_wp2_with fail
      go_ret
      exact ⟨rfl, HB8.out⟩
end
end Go.Proofs.Ytabjpmofakdacaa
