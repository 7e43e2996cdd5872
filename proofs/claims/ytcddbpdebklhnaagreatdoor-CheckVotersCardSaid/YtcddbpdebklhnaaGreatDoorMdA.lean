/-
  Sets of texts and small functions of the program's manifests. No conditions.
-/
import Derived.Test.YtcddbpdebklhnaaGreatDoorLexN
import Derived.Test.YtcddbpdebklhnaaGreatDoorRng
import Derived.Test.YtcddbpdebklhnaaGreatDoorManB
import Derived.Maps.OwnSet
import Derived.Maps.OwnOps
import Derived.Maps.Views
import Derived.KernelRfl
namespace Go.Proofs.YtcddbpdebklhnaaGreatDoor
open Go.RowKit
open Go.Maps (Keyed IsMap atKey_put_same atKey_put_other isMap_empty string_keyed has has_put_same has_put_other)

abbrev keyS (s : ByteArray) : Lit := .string s.data.toList
theorem keyS_inj {s t : ByteArray} : keyS s = keyS t ↔ s = t := by
  constructor
  · intro h
    have h1 : s.data.toList = t.data.toList := by injection h
    exact ByteArray.ext (Array.toList_inj.1 h1)
  · rintro rfl; rfl
theorem key_of {s : ByteArray} (hs : s.size ≤ 1000000) : keyOf Tryz.prog 9 (.string s) = some (keyS s) := by
  simp [keyOf, Tryz.underlying9, mapKey]
  unfold maxLen
  omega
theorem zeroU (w : World) : (zeroValue 127).run Tryz.prog w = .ok (.agg #[]) w := by kernel_rfl
theorem zeroN (w : World) : (zeroValue 3).run Tryz.prog w = .ok (.int .i64 0) w := by kernel_rfl
theorem key_S : Keyed Tryz.prog 9 := string_keyed Tryz.underlying9

/-- Block b is a set of at most q texts: those of l. -/
def SetIs (w : World) (b q : Nat) (l : List ByteArray) : Prop :=
  ∃ D : DataW Unit, w.ownsMap Tryz.prog 9 unitElem b q D ∧ IsMap D ∧ ∀ s : ByteArray, has D (keyS s) = memB s l
theorem SetIs.made (w : World) : SetIs (w.alloc (.map #[] 0)) w.heap.size 0 [] :=
  ⟨.map [], World.ownsMap_made w _ _ _, isMap_empty, fun _ => rfl⟩
section
variable {w w' : World} {b q : Nat} {l : List ByteArray}
theorem SetIs.block (h : SetIs w b q l) (hb : w'.heap[b]? = w.heap[b]?) : SetIs w' b q l := by
  obtain ⟨D, ⟨es, clock, h1, h2⟩, h3, h4⟩ := h
  exact ⟨D, ⟨es, clock, by rw [hb]; exact h1, h2⟩, h3, h4⟩
theorem SetIs.low (h : SetIs w b q l) : b < w.heap.size := by
  obtain ⟨D, ⟨es, clock, h1, h2⟩, h3, h4⟩ := h
  exact (Array.getElem?_eq_some_iff.1 h1).1
theorem SetIs.later (h : SetIs w b q l) (hb : Below w.heap.size w w') : SetIs w' b q l := h.block (hb.block b h.low)
theorem SetIs.apart {bad : Nat → Prop} (h : SetIs w b q l) (hb : Apart bad w w') (hn : ¬ bad b) : SetIs w' b q l := h.block (hb.block b h.low hn)
theorem SetIs.put {D : DataW Unit} {s : ByteArray} (h2 : IsMap D) (h3 : ∀ s : ByteArray, has D (keyS s) = memB s l) (h : w'.ownsMap Tryz.prog 9 unitElem b (q + 1) (D.put (keyS s) (.agg []))) : SetIs w' b (q + 1) (l ++ [s]) := by
  refine ⟨_, h, h2.put _ _, fun t => ?_⟩
  by_cases hk : t = s
  · subst hk
    rw [has_put_same h2 (show WideAt.IsKeyLit (keyS t) from True.intro)]
    symm
    rw [memB_iff]
    simp
  · rw [has_put_other (fun e => hk (keyS_inj.1 e)), h3 t, Bool.eq_iff_iff, memB_iff, memB_iff]
    simp [hk]
end
theorem Apart.of_below {bad : Nat → Prop} {w w' : World} (h : Below w.heap.size w w') : Apart bad w w' := ⟨h.os, h.tape, h.output, h.size, fun b hl _ => h.block b hl⟩
theorem Apart.of_grown {bad : Nat → Prop} {w w' : World} {r : Nat} (h : w.grownBy w' (some r)) (hb : bad r) : Apart bad w w' := ⟨h.os, h.tape, h.output, h.size, fun b hl hn => h.block b hl (fun e => hn (by injection e with e; rw [e]; exact hb))⟩
section
variable {w : World} {b q : Nat} {l : List ByteArray}
set_option maxHeartbeats 1000000 in
set_option maxRecDepth 100000 in
theorem has_is (h : SetIs w b q l) (s : ByteArray) (hs : s.size ≤ 1000000) : Calls Tryz.prog 72 #[.map (some b), .string s] w fun e w' => e = .returned (.bool (memB s l)) ∧ Below w.heap.size w w' := by
  obtain ⟨D, hown, hm, hh⟩ := h
  have HO := Lib.hid hown
  rw [← hh s]
  clear hown hm hh
  go_enter Tryz.func72, Tryz.ntmps72
  go_wp2_with (at_lookup; refine wpList_lookup_own_unit _ rfl _ _ 98 rfl 9 127 key_S Tryz.underlying98 (zeroU _) b q D rfl HO.out _ _ rfl (key_of hs) ?_)
  go_ret
  exact ⟨rfl, (Below.refl _ _).alloc (Nat.le_refl _) _⟩
theorem add_is (h : SetIs w b q l) (hq : q < 1000000) (s : ByteArray) (hs : s.size ≤ 1000000) : Calls Tryz.prog 61 #[.map (some b), .string s] w fun e w' => e = .returned (.bool (!memB s l)) ∧ Apart (fun i => i = b) w w' ∧ SetIs w' b (q + 1) (if memB s l then l else l ++ [s]) := by
  have HS := Lib.hid h
  have hA := has_is h s hs
  clear h
  obtain ⟨m, hmm⟩ : ∃ m, m = memB s l := ⟨_, rfl⟩
  rw [← hmm] at hA ⊢
  have HA := Lib.hid hA
  clear hA hmm
  go_enter Tryz.func61, Tryz.ntmps61
  go_wp2_with fail
  refine HA.out.mono ?_
  rintro e w1 ⟨rfl, hb1⟩
  have HB1 := Lib.hid hb1
  have hs1 := HS.out.later hb1
  obtain ⟨D, hown, hm, hh⟩ := id hs1
  have HO := Lib.hid hown
  have HM := Lib.hid hm
  have HH := Lib.hid hh
  have HS1 := Lib.hid hs1
  clear hown hm hh hs1 hb1
  cases m with
  | true =>
    go_wp2_with fail
    go_ret
    refine ⟨rfl, Apart.of_below HB1.out, ?_⟩
    obtain ⟨D, ⟨es, clock, h1, h2, h3, h4⟩, h5, h6⟩ := HS1.out
    exact ⟨D, ⟨es, clock, h1, h2, by omega, h4⟩, h5, h6⟩
  | false =>
    go_wp2_with (at_mapUpdate; refine wpList_mapUpdate_own _ rfl _ _ _ 98 rfl 9 127 key_S Tryz.underlying98 unitElem b q D rfl HO.out (by unfold maxLen; omega) _ _ (keyS s) rfl rfl (key_of hs) (.agg []) [] unitElem_mk ?_; intro w2 hown2 hg2; have HO2 := Lib.hid hown2; have HG2 := Lib.hid hg2; clear hown2 hg2)
    go_ret
    exact ⟨rfl, (Apart.of_below HB1.out).trans (Apart.of_grown HG2.out rfl), SetIs.put HM.out HH.out HO2.out⟩
end
theorem within_is (w : World) (n lo hi : Int) (r : Bool) (hr : r = decide (lo ≤ n ∧ n ≤ hi)) : Calls Tryz.prog 59 #[.int .i64 n, .int .i64 lo, .int .i64 hi] w fun e w' => e = .returned (.bool r) ∧ w = w' := by
  by_cases h1 : lo ≤ n
  · by_cases h2 : n ≤ hi
    · obtain rfl : r = true := by rw [hr]; exact decide_eq_true ⟨h1, h2⟩
      clear hr
      go_enter Tryz.func59, Tryz.ntmps59
      go_wp2_with fail
      go_ret
      exact ⟨rfl, rfl⟩
    · obtain rfl : r = false := by rw [hr]; exact decide_eq_false (by omega)
      clear hr
      go_enter Tryz.func59, Tryz.ntmps59
      go_wp2_with fail
      go_ret
      exact ⟨rfl, rfl⟩
  · obtain rfl : r = false := by rw [hr]; exact decide_eq_false (by omega)
    clear hr
    go_enter Tryz.func59, Tryz.ntmps59
    go_wp2_with fail
    go_ret
    exact ⟨rfl, rfl⟩
theorem isgate_is (w : World) (n : ByteArray) (A : Value) (r t need lv st : Int) : Calls Tryz.prog 71 #[.agg #[.string n, A, .int .i64 r, .int .i64 t, .int .i64 need, .int .i64 lv, .int .u16 st]] w fun e w' => e = .returned (.bool (need != 0)) ∧ Below w.heap.size w w' := by
  go_enter Tryz.func71, Tryz.ntmps71
  have z := made_at w (.cells #[.string n, A, .int .i64 r, .int .i64 t, .int .i64 need, .int .i64 lv, .int .u16 st] 43)
  have z4 := cellH z 4
  simp at z4
  go_wp2_with fail
  go_ret
  exact ⟨rfl, (Below.refl _ _).alloc (Nat.le_refl _) _⟩
theorem nil_no (v : Value) (w : World) : (binOp BinOp.eql 35 .nilIface (.iface 31 v)).run Tryz.prog w = .ok (.bool false) w := by kernel_rfl
set_option maxRecDepth 100000 in
theorem is_none (w : World) (e : Int) : Calls Tryz.prog 27 #[.nilIface, .iface 31 (.int .i64 e)] w fun r w' => r = .returned (.bool false) ∧ w = w' := by
  have hE := nil_no (.int .i64 e)
  go_enter Tryz.func27, Tryz.ntmps27
  go_wp2_with fail
  go_ret
  exact ⟨rfl, rfl⟩
set_option maxHeartbeats 1000000 in
set_option maxRecDepth 100000 in
theorem isnameM_is (s : ByteArray) (w : World) : Calls Tryz.prog 58 #[.string s] w fun e w' => e = .returned (.bool (nameP s)) ∧ Below w.heap.size w w' := by
  have hN := name_is w s 0
  unfold OneOut wdV at hN
  obtain ⟨b, hb⟩ : ∃ b, b = nameP s := ⟨_, rfl⟩
  rw [← hb] at hN ⊢
  have HN := Lib.hid hN
  clear hN hb
  go_enter Tryz.func58, Tryz.ntmps58
  go_wp2_with fail
  refine HN.out.mono ?_
  cases b with
  | true =>
    rintro e w1 ⟨hb1, rfl⟩
    have HB1 := Lib.hid hb1
    clear hb1
    go_wp2_with fail
    refine (is_none _ 15).mono ?_
    rintro e w2 ⟨rfl, rfl⟩
    go_wp2_with fail
    go_ret
    exact ⟨rfl, HB1.out⟩
  | false =>
    rintro e w1 ⟨hb1, F, rfl, hF⟩
    have HB1 := Lib.hid hb1
    have HI := Lib.hid (is_fault (e := 15) hF)
    clear hb1 hF
    unfold fltV
    go_wp2_with fail
    refine HI.out.mono ?_
    rintro e w2 ⟨rfl, rfl⟩
    go_wp2_with fail
    go_ret
    exact ⟨rfl, HB1.out⟩
end Go.Proofs.YtcddbpdebklhnaaGreatDoor
