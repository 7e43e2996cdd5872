/-
  The program's Write and Read of votes are what GateWrites asks. Conditions: what the library's variables hold, and sizes.
-/
import Derived.Test.YthmjeibanofliaaDoorGtW
import Derived.Test.YthmjeibanofliaaDoorGtOk
import Derived.Test.YthmjeibanofliaaDoorRd1
namespace Go.Proofs.YthmjeibanofliaaDoor
open Go.RowKit

theorem ints_at_one {W : World} {g : Nat} {n : Int} {t : TypeId} (h : W.heap[g]? = some (.cells #[.int .i64 n] t (0, 0))) : IntsAt W (some ⟨g, 0, none⟩) [n] := fun _ => ⟨_, rfl, fun i m hi => by
  rcases i with _ | i
  · obtain rfl : n = m := by simpa using hi
    have e : (⟨g, 0, none⟩ : Addr).add 0 = ⟨g, 0, none⟩ := rfl
    rw [e, cellH h]
    rfl
  · simp at hi⟩
theorem intsAt_of {W : World} {A : Option Addr} {l : List Int} (h : IntsL W A l) : IntsAt W A l := fun hn => by
  obtain ⟨ad, e, hc⟩ := h hn
  refine ⟨ad, e, fun i n hi => ?_⟩
  rw [hc i (List.getElem?_eq_some_iff.1 hi).1, List.getD_eq_getElem?_getD, hi]
  rfl
theorem intsL_onlyO {W V : World} {O : List Nat} {A : Option Addr} {l : List Int} (h : IntsL W A l) (ho : OnlyO O W V) (hO : 0 < l.length → Off A O) : IntsL V A l := fun hn => by
  obtain ⟨ad, e, hc⟩ := h hn
  exact ⟨ad, e, fun i hi => cell_onlyO ho (by rw [add_block]; exact hO hn ad e) (hc i hi)⟩
theorem off_new12 {W : World} {O O' : List Nat} {A : Option Addr} {l : List Int} (h : IntsL W A l) (hO : 0 < l.length → Off A O) (hn : New O O' W) : 0 < l.length → Off A O' := fun hl ad e hm => by
  obtain ⟨ad', e', hc⟩ := h hl
  obtain rfl := Option.some.inj (e'.symm.trans e)
  rcases hn _ hm with h1 | h1
  · exact hO hl ad' e h1
  · have h2 := hc 0 hl
    have h3 : (ad'.add 0).block < W.heap.size := by
      unfold World.cell? at h2
      cases hh : W.heap[(ad'.add 0).block]? with
      | some o => exact (Array.getElem?_eq_some_iff.1 hh).1
      | none => rw [hh] at h2; simp at h2
    rw [add_block] at h3
    omega
theorem votL_int {yes : List Int} {no : Bool} (hr : ∀ z ∈ yes, -9223372036854775808 ≤ z ∧ z ≤ 9223372036854775807) (hn : yes.length ≤ 1000) : ∀ z ∈ votL yes no, -9223372036854775808 ≤ z ∧ z ≤ 9223372036854775807 := fun z hz => by
  rcases List.mem_cons.1 hz with rfl | hz
  · omega
  · rcases List.mem_append.1 hz with hz | hz
    · exact hr z hz
    · obtain rfl : z = if no then 1 else 0 := by simpa using hz
      split <;> omega
theorem intsX_app (T : ByteArray) (a b : List Int) : intsX (intsX T a) b = intsX T (a ++ b) := by
  unfold intsX
  rw [List.foldl_append]
theorem votL_size {T : ByteArray} {yes : List Int} {no : Bool} (hr : ∀ z ∈ yes, -9223372036854775808 ≤ z ∧ z ≤ 9223372036854775807) (hn : yes.length ≤ 1000) (hT : T.size ≤ 100000000) : (intsX T (votL yes no)).size ≤ 140737488355328 := by
  have h1 := intsX_size (votL yes no) T (votL_int hr hn)
  have h2 : (votL yes no).length = yes.length + 2 := by simp [votL]
  omega
section
variable {w W : World} {A : Option Addr} {c m P : Nat} {T : ByteArray} {yes : List Int} {O : List Nat}
set_option maxHeartbeats 4000000 in
set_option maxRecDepth 100000 in
theorem gwrite_v (no : Bool) (h : WrV W O P T) (hA : IntsL W A yes) (hAO : 0 < yes.length → Off A O) (hr : ∀ z ∈ yes, -9223372036854775808 ≤ z ∧ z ≤ 9223372036854775807) (hn : yes.length ≤ 1000) (hT : T.size ≤ 100000000) :
    Calls Tryd.prog 5 #[.pointer (some ⟨P, 0, none⟩), .agg #[.slice A yes.length c, .bool no]] W (WroteV W O P (intsX T (votL yes no))) := by
  have HSZ := Lib.hid (votL_size (no := no) hr hn hT)
  have HINT := Lib.hid (votL_int (no := no) hr hn)
  have HR := Lib.hid hr
  have HLOW := Lib.hid (fun i (hi : i ∈ O) => h.wr.low.2 i hi)
  have m0 := made_at W (.cells #[.slice A yes.length c, .bool no] 24)
  have b0 := (Below.refl W.heap.size W).alloc (Nat.le_refl _) (.cells #[.slice A yes.length c, .bool no] 24)
  have z0 : (W.alloc (.cells #[.slice A yes.length c, .bool no] 24)).heap.size = W.heap.size + 1 := World.size_alloc _ _
  have HV0 := Lib.hid (h.below b0)
  have HA0 := Lib.hid (IntsL.later hA b0)
  have HAO := Lib.hid hAO
  clear h hA hAO hr
  go_enter Tryd.func5, Tryd.ntmps5
  go_upto_region 1 with fail
  generalize hW0 : (W.alloc (.cells #[.slice A yes.length c, .bool no] 24)) = W0 at *
  clear hW0
  have x0 := cellH m0 0
  simp at x0
  have b1 := (Below.refl W0.heap.size W0).alloc (Nat.le_refl _) (.cells #[.int .i64 (yes.length : Int)] 3)
  have m1 := made_at W0 (.cells #[.int .i64 (yes.length : Int)] 3)
  rw [z0] at m1
  have hs1 : (intsX T [(yes.length : Int)]).size ≤ 140737488355328 := by
    have := intsX_part T (votL yes no) 1
    have := HSZ.out
    have e : (votL yes no).take 1 = [(yes.length : Int)] := rfl
    rw [← e]
    omega
  have HC1 := Lib.hid (wint_is (HV0.out.below b1) (some ⟨W.heap.size + 1, 0, none⟩) [(yes.length : Int)] 1 (ints_at_one m1) (fun ad e hm => by obtain rfl := Option.some.inj e; have := HLOW.out _ hm; have h2 : W.heap.size + 1 < W.heap.size := this; omega) (fun z hz => by rw [List.mem_singleton.1 hz]; omega) (by simp) hs1)
  have HM0 := Lib.hid m0
  have HB0 := Lib.hid b0
  have HB1 := Lib.hid b1
  clear hs1 b0 b1 m1 m0 HV0
  go_wp2_with fail
  refine HC1.out.mono ?_
  rintro e w2 ⟨rfl, O2, hV2, hN2, hO2⟩
  have HO2 := Lib.hid ((OnlyO.of_below (O := O) (below_step HB0.out HB1.out)).trans hO2 New.refl)
  have HL2 := Lib.hid (show ∀ i ∈ O2, i ≠ W.heap.size from fun i hi e => by
    have h1 := HB1.out.size
    rcases hN2 i hi with h2 | h2
    · have := HLOW.out i h2
      omega
    · omega)
  have HN2 := Lib.hid ((New.refl (O := O) (a := W)).trans hN2 (by have := HB1.out.size; omega))
  have hm2 : w2.heap[W.heap.size]? = some (.cells #[.slice A yes.length c, .bool no] 24 (0, 0)) := by
    have h1 := later_at HB1.out HM0.out
    rw [hO2.block W.heap.size (Array.getElem?_eq_some_iff.1 h1).1 (fun hm => by have := HLOW.out _ hm; omega)]
    exact h1
  have HAW := Lib.hid (IntsL.later HA0.out HB1.out)
  have HA2 := Lib.hid (intsL_onlyO HAW.out hO2 HAO.out)
  have HAO2 := Lib.hid (off_new12 HAW.out HAO.out hN2)
  have hs2 : (intsX (intsX T [(yes.length : Int)]) yes).size ≤ 140737488355328 := by
    have h1 := intsX_part T (votL yes no) (yes.length + 1)
    have h2 := HSZ.out
    have e : (votL yes no).take (yes.length + 1) = [(yes.length : Int)] ++ yes := by simp [votL]
    rw [intsX_app, ← e]
    omega
  have HC2 := Lib.hid (wint_any hV2 A yes c (intsAt_of HA2.out) HAO2.out HR.out (by omega) hs2)
  have x0 := cellH hm2 0
  simp at x0
  have HM2 := Lib.hid hm2
  clear hm2 hV2 hN2 hO2 hs2 HC1 HA0 HAO HAW HB1 HM0 HA2 HAO2
  go_wp2_with fail
  refine HC2.out.mono ?_
  rintro e w3 ⟨rfl, O3, hV3, hN3, hO3⟩
  have HO3 := Lib.hid (HO2.out.trans hO3 HN2.out)
  have HN3 := Lib.hid (HN2.out.trans hN3 HO2.out.size)
  have hm3 : w3.heap[W.heap.size]? = some (.cells #[.slice A yes.length c, .bool no] 24 (0, 0)) := by
    rw [hO3.block W.heap.size (Array.getElem?_eq_some_iff.1 HM2.out).1 (fun hm => HL2.out _ hm rfl)]
    exact HM2.out
  have HL3 := Lib.hid (show ∀ i ∈ O3, i < w3.heap.size from fun i hi => hV3.wr.low.2 i hi)
  have x1 := cellH hm3 1
  simp at x1
  have b4 := (Below.refl w3.heap.size w3).alloc (Nat.le_refl _) (.cells #[.int .i64 (if no then 1 else 0)] 3)
  have m4 := made_at w3 (.cells #[.int .i64 (if no then 1 else 0)] 3)
  have hs3 : (intsX (intsX (intsX T [(yes.length : Int)]) yes) [if no then 1 else 0]).size ≤ 140737488355328 := by
    rw [intsX_app, intsX_app]
    exact HSZ.out
  have HC3 := Lib.hid (wint_is (hV3.below b4) (some ⟨w3.heap.size, 0, none⟩) [if no then 1 else 0] 1 (ints_at_one m4) (fun ad e hm => by obtain rfl := Option.some.inj e; have := HL3.out _ hm; have h2 : w3.heap.size < w3.heap.size := this; omega) (fun z hz => by rw [List.mem_singleton.1 hz]; split <;> omega) (by simp) hs3)
  have HB4 := Lib.hid b4
  have HEQ := Lib.hid (show intsX (intsX (intsX T [(yes.length : Int)]) yes) [if no then 1 else 0] = intsX T (votL yes no) by rw [intsX_app, intsX_app]; rfl)
  clear b4 m4 hs3 hm3 hV3 hN3 hO3 HC2 HM2 x0
  cases no with
  | true =>
    go_wp2_with fail
    refine HC3.out.mono ?_
    rintro e w5 ⟨rfl, O5, hV5, hN5, hO5⟩
    rw [HEQ.out] at hV5
    have HR5 := Lib.hid (show WroteV W O P (intsX T (votL yes true)) (.returned (.tuple #[])) w5 from ⟨rfl, O5, hV5, HN3.out.trans hN5 (by have := HO3.out.size; have := HB4.out.size; omega), (HO3.out.trans (OnlyO.of_below (O := O3) HB4.out) HN3.out).trans hO5 HN3.out⟩)
    clear hV5 hN5 hO5 HC3
    go_wp2_with fail
    exact bodyPost_ret (v := .tuple #[]) (by simp [results, Tryd.results5, go_sem]) rfl HR5.out
  | false =>
    go_wp2_with fail
    refine HC3.out.mono ?_
    rintro e w5 ⟨rfl, O5, hV5, hN5, hO5⟩
    rw [HEQ.out] at hV5
    have HR5 := Lib.hid (show WroteV W O P (intsX T (votL yes false)) (.returned (.tuple #[])) w5 from ⟨rfl, O5, hV5, HN3.out.trans hN5 (by have := HO3.out.size; have := HB4.out.size; omega), (HO3.out.trans (OnlyO.of_below (O := O3) HB4.out) HN3.out).trans hO5 HN3.out⟩)
    clear hV5 hN5 hO5 HC3
    go_wp2_with fail
    exact bodyPost_ret (v := .tuple #[]) (by simp [results, Tryd.results5, go_sem]) rfl HR5.out
/-- The votes lie off the Writer's rows. -/
theorem gwrite_is (no : Bool) (hw : WrB w W m P T) (hl : Below w.heap.size w W) (hA : IntsL W A yes) (hAO : 0 < yes.length → ∀ ad, A = some ad → ad.block < w.heap.size ∨ m ≤ ad.block) (hr : ∀ z ∈ yes, -9223372036854775808 ≤ z ∧ z ≤ 9223372036854775807) (hn : yes.length ≤ 1000) (hT : T.size ≤ 100000000) :
    Calls Tryd.prog 5 #[.pointer (some ⟨P, 0, none⟩), .agg #[.slice A yes.length c, .bool no]] W (WroteB w W m P (intsX T (votL yes no))) := by
  obtain ⟨O, h1, h2⟩ := hw
  refine (gwrite_v no h1 hA (fun hn ad e hm => ?_) hr hn hT).mono fun _ _ g => wroteB hl h2 g
  have h3 := h2 _ hm
  rcases hAO hn ad e with h4 | h4 <;> omega
end
end Go.Proofs.YthmjeibanofliaaDoor
