/-
  What the program's disk (package disk) does where it is written; and that all its calls are the document's. No conditions but how it lies in memory, and that there have been at most a million writes.
-/
import Derived.Test.YtbdgmddlghhkjaaDiskO
namespace Go.Proofs.Ytbdgmddlghhkjaa
open Go.RowKit

section
variable {w : World} {base D : Nat} {st : Dk}

set_option maxHeartbeats 400000 in
set_option maxRecDepth 100000 in
theorem dwrite_no (h : DiskAt w base D st) (a : Int) (s : ByteArray) (v : Int) (hv : (st.off = true ∧ v = 5) ∨ (st.off = false ∧ outB st a = true ∧ v = 2) ∨ (st.off = false ∧ outB st a = false ∧ s.size ≠ 64 ∧ v = 1)) :
    Calls Try.prog 57 #[.pointer (some ⟨D, 0, none⟩), .int .i64 a, .string s] w fun e w' => e = .returned (.int .i64 v) ∧ DiskAt w' base D st ∧ OnlyT base progT w w' := by
  have ht := Lib.hid (dthere_is h a)
  have H := Lib.hid h
  obtain ⟨S, cv, secs, b, hB, hs, hb⟩ := h
  have c5 := hB.cell 5
  simp at c5
  clear hB hs hb
  rcases hv with ⟨ho, rfl⟩ | ⟨ho, hout, rfl⟩ | ⟨ho, hout, hz, rfl⟩
  · rw [ho] at c5
    clear ho
    go_enter Try.func57, Try.ntmps57
    go_wp2_with fail
    go_ret
    exact ⟨rfl, H.out, OnlyT.refl⟩
  · rw [ho] at c5
    rw [hout] at ht
    clear ho hout
    go_enter Try.func57, Try.ntmps57
    go_wp2_with fail
    refine ht.out.mono ?_
    rintro e _ ⟨rfl, rfl⟩
    go_wp2_with fail
    go_ret
    exact ⟨rfl, H.out, OnlyT.refl⟩
  · rw [ho] at c5
    rw [hout] at ht
    have hsb : ((s.size : Int) != 64) = true := by simp; omega
    clear ho hout
    go_enter Try.func57, Try.ntmps57
    go_wp2_with fail
    refine ht.out.mono ?_
    rintro e _ ⟨rfl, rfl⟩
    go_wp2_with fail
    go_ret
    exact ⟨rfl, H.out, OnlyT.refl⟩

set_option maxHeartbeats 400000 in
set_option maxRecDepth 100000 in
theorem dwrite_yes (h : DiskAt w base D st) (a : Int) (s : ByteArray) (hn : st.cache.length < 1000000) (hw : st.writes ≤ 1000000) (hbs : base ≤ w.heap.size) (ho : st.off = false) (hout : outB st a = false) (hz : s.size = 64) :
    Calls Try.prog 57 #[.pointer (some ⟨D, 0, none⟩), .int .i64 a, .string s] w fun e w' => e = .returned (.int .i64 (if st.armed = 1 then 5 else 0)) ∧ DiskAt w' base D (if st.armed = 1 then crashS (putS st a s) st.bits else putS st a s) ∧ OnlyT base progT w w' := by
  have ht := Lib.hid (dthere_is h a)
  have h0 : ¬ (a < 0 ∨ (st.kept.length : Int) ≤ a) := by simp [outB] at hout; omega
  obtain ⟨i, rfl⟩ : ∃ i : Nat, a = i := ⟨a.toNat, by omega⟩
  have hp := Lib.hid (dput_is h i s (by omega) hz hn hw hbs)
  obtain ⟨S, cv, secs, b, hB, hs, hb⟩ := h
  have c5 := hB.cell 5
  have HK4 := Lib.hid (hB.cell 4)
  simp at c5
  have HB := Lib.hid hb
  have hb0 := hs.ok.bits0
  have hb1 := hs.ok.bits1
  clear hB hs hb h0
  rw [ho] at c5
  rw [hout] at ht
  have hsb : ((s.size : Int) != 64) = false := by simp [hz]
  clear ho hout
  go_enter Try.func57, Try.ntmps57
  go_wp2_with fail
  refine ht.out.mono ?_
  rintro e _ ⟨rfl, rfl⟩
  go_wp2_with fail
  refine hp.out.mono ?_
  rintro e w2 ⟨rfl, hd2, ho2, h42⟩
  have HO2 := Lib.hid ho2
  have H42 := Lib.hid h42
  have HQ := Lib.hid (ddue_is hd2)
  clear hd2 ho2 h42
  clear c5
  go_wp2_with fail
  refine HQ.out.mono ?_
  rintro e w3 ⟨rfl, hd3, ho3, h43⟩
  have HD3 := Lib.hid (show DiskAt w3 base D (putS st i s) from hd3)
  have HO3 := Lib.hid (HO2.out.trans ho3)
  have k4 : w3.cell? ⟨D, 4, none⟩ = some (.int .u64 b) := by rw [h43, H42.out, HK4.out]; rfl
  clear hd3 ho3 h43
  by_cases ha : st.armed = 1
  · have hd : decide ((pushS st i s).armed = 1) = true := decide_eq_true ha
    have hbb : b = st.bits := HB.out.1 (by omega)
    subst hbb
    rw [hd]
    go_wp2_with fail
    refine (dcrash_is HD3.out _ hb0 hb1 (by simp [putS]; omega)).mono ?_
    rintro e w4 ⟨rfl, hd4, ho4⟩
    have HD4 := Lib.hid hd4
    have HO4 := Lib.hid (HO3.out.trans ho4)
    clear hd4 ho4 k4
    go_wp2_with fail
    go_ret
    exact ⟨rfl, HD4.out, HO4.out⟩
  · have hd : decide ((pushS st i s).armed = 1) = false := decide_eq_false ha
    rw [hd]
    go_wp2_with fail
    go_ret
    exact ⟨rfl, HD3.out, HO3.out⟩

theorem dwrite_is (h : DiskAt w base D st) (hbs : base ≤ w.heap.size) (hn : st.cache.length < 1000000) (hw : st.writes ≤ 1000000) (a : Int) (s : ByteArray) :
    Calls Try.prog 57 #[.pointer (some ⟨D, 0, none⟩), .int .i64 a, .string s] w fun e w' => e = .returned (.int .i64 (writeE st a s)) ∧ DiskAt w' base D (writeS st a s) ∧ OnlyT base progT w w' := by
  cases ho : st.off
  · cases hout : outB st a
    · by_cases hs : s.size = 64
      · have := dwrite_yes h a s hn hw hbs ho hout hs
        simpa [writeE, writeS, ho, hout, hs] using this
      · have := dwrite_no h a s 1 (.inr (.inr ⟨ho, hout, hs, rfl⟩))
        simpa [writeE, writeS, ho, hout, hs] using this
    · have := dwrite_no h a s 2 (.inr (.inl ⟨ho, hout, rfl⟩))
      simpa [writeE, writeS, ho, hout] using this
  · have := dwrite_no h a s 5 (.inl ⟨ho, rfl⟩)
    simpa [writeE, writeS, ho] using this

end
end Go.Proofs.Ytbdgmddlghhkjaa
