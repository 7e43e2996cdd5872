/-
  Sets of texts and small functions of the program's manifests. No conditions. The program's manifest.Same: sameTask, slices.Equal and slices.EqualFunc at its types. Conditions: a million tasks at most, each behind a million at most. The program's manifest.Right, of pipelines that may be. No further conditions.
-/
import Derived.Test.YtcfnmjhelhdobaaGreatDoorLexN
import Derived.Test.YtcfnmjhelhdobaaGreatDoorRng2
import Derived.Test.YtcfnmjhelhdobaaGreatDoorManC
import Derived.Maps.OwnSet
import Derived.Maps.OwnOps
import Derived.Maps.Views
import Derived.KernelRfl
import Derived.Test.YtcfnmjhelhdobaaGreatDoorWares
import Derived.Test.YtcfnmjhelhdobaaGreatDoorManT
import Derived.BigQuiet
import Derived.Deep.QuietTactic
import Derived.Test.YtcfnmjhelhdobaaGreatDoorLabelG
import Derived.Test.YtcfnmjhelhdobaaGreatDoorManO
namespace Go.Proofs.YtcfnmjhelhdobaaGreatDoor
open Go.RowKit
open Go.Maps (Keyed IsMap atKey_put_same atKey_put_other isMap_empty string_keyed has has_put_same has_put_other)

abbrev keyS (s : ByteArray) : Lit := .string s.data.toList
theorem keyS_inj {s t : ByteArray} : keyS s = keyS t ↔ s = t := by
  constructor
  · intro h
    have h1 : s.data.toList = t.data.toList := by injection h
    exact ByteArray.ext (Array.toList_inj.1 h1)
  · rintro rfl; rfl
theorem key_of {s : ByteArray} (hs : s.size ≤ 1000000) : keyOf Tryz.prog 9 (.string s) = some (keyS s) := by
  simp [keyOf, Tryz.underlying9, mapKey]
  unfold maxLen
  omega
theorem zeroU (w : World) : (zeroValue 116).run Tryz.prog w = .ok (.agg #[]) w := by kernel_rfl
theorem zeroN (w : World) : (zeroValue 3).run Tryz.prog w = .ok (.int .i64 0) w := by kernel_rfl
theorem key_S : Keyed Tryz.prog 9 := string_keyed Tryz.underlying9

/-- Block b is a set of at most q texts: those of l. -/
def SetIs (w : World) (b q : Nat) (l : List ByteArray) : Prop :=
  ∃ D : DataW Unit, w.ownsMap Tryz.prog 9 unitElem b q D ∧ IsMap D ∧ ∀ s : ByteArray, has D (keyS s) = memB s l
theorem SetIs.made (w : World) : SetIs (w.alloc (.map #[] 0)) w.heap.size 0 [] :=
  ⟨.map [], World.ownsMap_made w _ _ _, isMap_empty, fun _ => rfl⟩
section
variable {w w' : World} {b q : Nat} {l : List ByteArray}
theorem SetIs.block (h : SetIs w b q l) (hb : w'.heap[b]? = w.heap[b]?) : SetIs w' b q l := by
  obtain ⟨D, ⟨es, clock, h1, h2⟩, h3, h4⟩ := h
  exact ⟨D, ⟨es, clock, by rw [hb]; exact h1, h2⟩, h3, h4⟩
theorem SetIs.low (h : SetIs w b q l) : b < w.heap.size := by
  obtain ⟨D, ⟨es, clock, h1, h2⟩, h3, h4⟩ := h
  exact (Array.getElem?_eq_some_iff.1 h1).1
theorem SetIs.later (h : SetIs w b q l) (hb : Below w.heap.size w w') : SetIs w' b q l := h.block (hb.block b h.low)
theorem SetIs.apart {bad : Nat → Prop} (h : SetIs w b q l) (hb : Apart bad w w') (hn : ¬ bad b) : SetIs w' b q l := h.block (hb.block b h.low hn)
theorem SetIs.put {D : DataW Unit} {s : ByteArray} (h2 : IsMap D) (h3 : ∀ s : ByteArray, has D (keyS s) = memB s l) (h : w'.ownsMap Tryz.prog 9 unitElem b (q + 1) (D.put (keyS s) (.agg []))) : SetIs w' b (q + 1) (l ++ [s]) := by
  refine ⟨_, h, h2.put _ _, fun t => ?_⟩
  by_cases hk : t = s
  · subst hk
    rw [has_put_same h2 (show WideAt.IsKeyLit (keyS t) from True.intro)]
    symm
    rw [memB_iff]
    simp
  · rw [has_put_other (fun e => hk (keyS_inj.1 e)), h3 t, Bool.eq_iff_iff, memB_iff, memB_iff]
    simp [hk]
end
theorem Apart.of_below {bad : Nat → Prop} {w w' : World} (h : Below w.heap.size w w') : Apart bad w w' := ⟨h.os, h.tape, h.output, h.size, fun b hl _ => h.block b hl⟩
theorem Apart.of_grown {bad : Nat → Prop} {w w' : World} {r : Nat} (h : w.grownBy w' (some r)) (hb : bad r) : Apart bad w w' := ⟨h.os, h.tape, h.output, h.size, fun b hl hn => h.block b hl (fun e => hn (by injection e with e; rw [e]; exact hb))⟩
section
variable {w : World} {b q : Nat} {l : List ByteArray}
set_option maxHeartbeats 1000000 in
set_option maxRecDepth 100000 in
theorem has_is (h : SetIs w b q l) (s : ByteArray) (hs : s.size ≤ 1000000) : Calls Tryz.prog 56 #[.map (some b), .string s] w fun e w' => e = .returned (.bool (memB s l)) ∧ Below w.heap.size w w' := by
  obtain ⟨D, hown, hm, hh⟩ := h
  have HO := Lib.hid hown
  rw [← hh s]
  clear hown hm hh
  go_enter Tryz.func56, Tryz.ntmps56
  go_wp2_with (at_lookup; refine wpList_lookup_own_unit _ rfl _ _ 74 rfl 9 116 key_S Tryz.underlying74 (zeroU _) b q D rfl HO.out _ _ rfl (key_of hs) ?_)
  go_ret
  exact ⟨rfl, (Below.refl _ _).alloc (Nat.le_refl _) _⟩
theorem add_is (h : SetIs w b q l) (hq : q < 1000000) (s : ByteArray) (hs : s.size ≤ 1000000) : Calls Tryz.prog 31 #[.map (some b), .string s] w fun e w' => e = .returned (.bool (!memB s l)) ∧ Apart (fun i => i = b) w w' ∧ SetIs w' b (q + 1) (if memB s l then l else l ++ [s]) := by
  have HS := Lib.hid h
  have hA := has_is h s hs
  clear h
  obtain ⟨m, hmm⟩ : ∃ m, m = memB s l := ⟨_, rfl⟩
  rw [← hmm] at hA ⊢
  have HA := Lib.hid hA
  clear hA hmm
  go_enter Tryz.func31, Tryz.ntmps31
  go_wp2_with fail
  refine HA.out.mono ?_
  rintro e w1 ⟨rfl, hb1⟩
  have HB1 := Lib.hid hb1
  have hs1 := HS.out.later hb1
  obtain ⟨D, hown, hm, hh⟩ := id hs1
  have HO := Lib.hid hown
  have HM := Lib.hid hm
  have HH := Lib.hid hh
  have HS1 := Lib.hid hs1
  clear hown hm hh hs1 hb1
  cases m with
  | true =>
    go_wp2_with fail
    go_ret
    refine ⟨rfl, Apart.of_below HB1.out, ?_⟩
    obtain ⟨D, ⟨es, clock, h1, h2, h3, h4⟩, h5, h6⟩ := HS1.out
    exact ⟨D, ⟨es, clock, h1, h2, by omega, h4⟩, h5, h6⟩
  | false =>
    go_wp2_with (at_mapUpdate; refine wpList_mapUpdate_own _ rfl _ _ _ 74 rfl 9 116 key_S Tryz.underlying74 unitElem b q D rfl HO.out (by unfold maxLen; omega) _ _ (keyS s) rfl rfl (key_of hs) (.agg []) [] unitElem_mk ?_; intro w2 hown2 hg2; have HO2 := Lib.hid hown2; have HG2 := Lib.hid hg2; clear hown2 hg2)
    go_ret
    exact ⟨rfl, (Apart.of_below HB1.out).trans (Apart.of_grown HG2.out rfl), SetIs.put HM.out HH.out HO2.out⟩
end
theorem within_is (w : World) (n lo hi : Int) (r : Bool) (hr : r = decide (lo ≤ n ∧ n ≤ hi)) : Calls Tryz.prog 29 #[.int .i64 n, .int .i64 lo, .int .i64 hi] w fun e w' => e = .returned (.bool r) ∧ w = w' := by
  by_cases h1 : lo ≤ n
  · by_cases h2 : n ≤ hi
    · obtain rfl : r = true := by rw [hr]; exact decide_eq_true ⟨h1, h2⟩
      clear hr
      go_enter Tryz.func29, Tryz.ntmps29
      go_wp2_with fail
      go_ret
      exact ⟨rfl, rfl⟩
    · obtain rfl : r = false := by rw [hr]; exact decide_eq_false (by omega)
      clear hr
      go_enter Tryz.func29, Tryz.ntmps29
      go_wp2_with fail
      go_ret
      exact ⟨rfl, rfl⟩
  · obtain rfl : r = false := by rw [hr]; exact decide_eq_false (by omega)
    clear hr
    go_enter Tryz.func29, Tryz.ntmps29
    go_wp2_with fail
    go_ret
    exact ⟨rfl, rfl⟩
theorem mfault_is (w : World) (a e : Int) : Calls Tryz.prog 36 #[.int .i64 a, .int .i64 e] w fun x w' => ∃ F, x = .returned (fltV F) ∧ FaultAt w' F a e ∧ w.heap.size ≤ F ∧ Below w.heap.size w w' := by
  go_enter Tryz.func36, Tryz.ntmps36
  go_wp2_with fail
  go_ret
  exact ⟨_, rfl, made_at _ _, Nat.le_refl _, (Below.refl _ _).alloc (Nat.le_refl _) _⟩
theorem isgate_is (w : World) (n : ByteArray) (A : Value) (r t need lv st : Int) : Calls Tryz.prog 54 #[.agg #[.string n, A, .int .i64 r, .int .i64 t, .int .i64 need, .int .i64 lv, .int .u16 st]] w fun e w' => e = .returned (.bool (need != 0)) ∧ Below w.heap.size w w' := by
  go_enter Tryz.func54, Tryz.ntmps54
  have z := made_at w (.cells #[.string n, A, .int .i64 r, .int .i64 t, .int .i64 need, .int .i64 lv, .int .u16 st] 47)
  have z4 := cellH z 4
  simp at z4
  go_wp2_with fail
  go_ret
  exact ⟨rfl, (Below.refl _ _).alloc (Nat.le_refl _) _⟩
theorem nil_no (v : Value) (w : World) : (binOp BinOp.eql 27 .nilIface (.iface 37 v)).run Tryz.prog w = .ok (.bool false) w := by kernel_rfl
set_option maxRecDepth 100000 in
theorem is_none (w : World) (e : Int) : Calls Tryz.prog 22 #[.nilIface, .iface 37 (.int .i64 e)] w fun r w' => r = .returned (.bool false) ∧ w = w' := by
  have hE := nil_no (.int .i64 e)
  go_enter Tryz.func22, Tryz.ntmps22
  go_wp2_with fail
  go_ret
  exact ⟨rfl, rfl⟩
set_option maxHeartbeats 1000000 in
set_option maxRecDepth 100000 in
theorem isnameM_is (s : ByteArray) (w : World) : Calls Tryz.prog 28 #[.string s] w fun e w' => e = .returned (.bool (nameP s)) ∧ Below w.heap.size w w' := by
  have hN := name_is w s 0
  unfold OneOut wdV at hN
  obtain ⟨b, hb⟩ : ∃ b, b = nameP s := ⟨_, rfl⟩
  rw [← hb] at hN ⊢
  have HN := Lib.hid hN
  clear hN hb
  go_enter Tryz.func28, Tryz.ntmps28
  go_wp2_with fail
  refine HN.out.mono ?_
  cases b with
  | true =>
    rintro e w1 ⟨hb1, rfl⟩
    have HB1 := Lib.hid hb1
    clear hb1
    go_wp2_with fail
    refine (is_none _ 15).mono ?_
    rintro e w2 ⟨rfl, rfl⟩
    go_wp2_with fail
    go_ret
    exact ⟨rfl, HB1.out⟩
  | false =>
    rintro e w1 ⟨hb1, F, rfl, hF⟩
    have HB1 := Lib.hid hb1
    have HI := Lib.hid (is_fault (e := 15) hF)
    clear hb1 hF
    unfold fltV
    go_wp2_with fail
    refine HI.out.mono ?_
    rintro e w2 ⟨rfl, rfl⟩
    go_wp2_with fail
    go_ret
    exact ⟨rfl, HB1.out⟩
end Go.Proofs.YtcfnmjhelhdobaaGreatDoor

namespace Go.Proofs.YtcfnmjhelhdobaaGreatDoor
open Go.RowKit

theorem spot_none {w : World} {p : Addr} {v : Value} (h : w.cell? p = some v) : p.spot = none := by
  obtain ⟨b, o, s⟩ := p
  unfold World.cell? at h
  cases s with
  | none => rfl
  | some x => split at h <;> cases h
theorem NatsAt.flat {w : World} {A : Option Addr} {l : List Nat} (h : NatsAt w A l) (hl : 0 < l.length) : ∃ b o, A = some ⟨b, o, none⟩ ∧ ∀ j, j < (l.map Int.ofNat).length → w.cell? ⟨b, o + j, none⟩ = some (.int .i64 ((l.map Int.ofNat).getD j 0)) := by
  obtain ⟨ad, rfl, hc⟩ := h hl
  have h0 := hc 0 _ (List.getElem?_eq_getElem hl)
  have hs : ad.spot = none := by
    have := spot_none h0
    simpa [Addr.add] using this
  obtain ⟨b, o, s⟩ := ad
  obtain rfl : s = none := hs
  refine ⟨b, o, rfl, fun j hj => ?_⟩
  rw [List.length_map] at hj
  have h1 := cell_of (p := (⟨b, o, none⟩ : Addr).add j) (q := ⟨b, o + j, none⟩) (add_block _ _) (add_off _ _) rfl (hc j _ (List.getElem?_eq_getElem hj))
  rw [h1, List.getD_eq_getElem?_getD, List.getElem?_map, List.getElem?_eq_getElem hj]
  rfl
theorem map_beq (l m : List Nat) : (l.map Int.ofNat == m.map Int.ofNat) = decide (l = m) := by
  rw [Bool.eq_iff_iff, beq_iff_eq, decide_eq_true_iff]
  exact ⟨fun h => (List.map_inj_right (fun a b e => by injection e)).1 h, fun h => by rw [h]⟩
section
variable {w : World} {A B : Option Addr} {c d : Nat}
theorem equal_is {l m : List Nat} (hA : NatsAt w A l) (hB : NatsAt w B m) (h1 : l.length ≤ 1000000) (h2 : m.length ≤ 1000000) : Calls Tryz.prog 51 #[.slice A l.length c, .slice B m.length d] w fun e w' => e = .returned (.bool (decide (l = m))) ∧ Below w.heap.size w w' := by
  by_cases hn : l.length = m.length
  · by_cases h0 : 0 < l.length
    · obtain ⟨b1, o1, rfl, hc1⟩ := hA.flat h0
      obtain ⟨b2, o2, rfl, hc2⟩ := hB.flat (by omega)
      refine (Tryz.slices_Equal_int b1 o1 l.length c b2 o2 m.length d (l.map Int.ofNat) (m.map Int.ofNat) w (by rw [List.length_map]; exact Nat.le_refl _) (by rw [List.length_map]; exact Nat.le_refl _) (by omega) (by omega) hc1 hc2).mono ?_
      rintro e w1 ⟨rfl, q, rfl⟩
      refine ⟨?_, Below.drewN_ (Below.refl _ _) q⟩
      rw [List.take_of_length_le (by simp), List.take_of_length_le (by simp), map_beq]
    · have e1 : l = [] := List.eq_nil_of_length_eq_zero (by omega)
      have e2 : m = [] := List.eq_nil_of_length_eq_zero (by omega)
      subst e1 e2
      refine (Tryz.slices_Equal_int_empty A B c 0 d w (by omega)).mono ?_
      rintro e w1 ⟨rfl, rfl⟩
      exact ⟨rfl, Below.refl _ _⟩
  · refine (Tryz.slices_Equal_int_lens A B l.length c m.length d w hn).mono ?_
    rintro e w1 ⟨rfl, rfl⟩
    refine ⟨?_, Below.refl _ _⟩
    rw [decide_eq_false (fun e => hn (by rw [e]))]
set_option maxHeartbeats 4000000 in
set_option maxRecDepth 100000 in
theorem sametask_is {t u : TkP} (hA : NatsAt w A t.after) (hB : NatsAt w B u.after) (h1 : t.after.length ≤ 1000000) (h2 : u.after.length ≤ 1000000) : Calls Tryz.prog 27 #[.agg (tkA t A c), .agg (tkA u B d)] w fun e w' => e = .returned (.bool (sameT t u)) ∧ Below w.heap.size w w' := by
  obtain ⟨r, hr⟩ : ∃ r, r = sameT t u := ⟨_, rfl⟩
  rw [← hr]
  have HR := Lib.hid hr
  have b1 := (Below.refl w.heap.size w).alloc (Nat.le_refl _) (.cells (tkA t A c) 47)
  have b2 := (Below.refl _ (w.alloc (.cells (tkA t A c) 47))).alloc (Nat.le_refl _) (.cells (tkA u B d) 47)
  have HB0 := Lib.hid (below_step b1 b2)
  have HX := Lib.hid (later_at b2 (made_at w (.cells (tkA t A c) 47)))
  have m2 := made_at (w.alloc (.cells (tkA t A c) 47)) (.cells (tkA u B d) 47)
  rw [World.size_alloc] at m2
  have HY := Lib.hid m2
  have HA := Lib.hid (hA.later HB0.out)
  have HB := Lib.hid (hB.later HB0.out)
  have HL1 := Lib.hid h1
  have HL2 := Lib.hid h2
  clear hr b1 b2 m2 hA hB h1 h2
  go_enter Tryz.func27, Tryz.ntmps27
  go_upto_region 1 with fail
  generalize hW0 : ((w.alloc (.cells (tkA t A c) 47)).alloc (.cells (tkA u B d) 47)) = W0 at *
  clear hW0
  have x0 := cellH HX.out 0
  have x1 := cellH HX.out 1
  have y0 := cellH HY.out 0
  have y1 := cellH HY.out 1
  simp at x0 x1 y0 y1
  have HE := Lib.hid (equal_is (c := c) (d := d) HA.out HB.out HL1.out HL2.out)
  by_cases hn : t.name = u.name
  · have b1 : (t.name.toList == u.name.toList) = true := by rw [ba_same]; exact decide_eq_true hn
    obtain ⟨q, hq⟩ : ∃ q, q = decide (t.after = u.after) := ⟨_, rfl⟩
    rw [← hq] at HE
    have HQ := Lib.hid hq
    have HN := Lib.hid hn
    clear hq hn
    go_wp2_with fail
    refine HE.out.mono ?_
    rintro e w1 ⟨rfl, hb1⟩
    have HXC := Lib.hid (later_at hb1 HX.out)
    have HYC := Lib.hid (later_at hb1 HY.out)
    have HB1 := Lib.hid (below_step HB0.out hb1)
    clear hb1 x0 x1 y0 y1
    cases q with
    | false =>
      have HV := Lib.hid (show r = false by rw [HR.out, sameT, ← HQ.out, Bool.and_false])
      go_wp2_with fail
      go_ret
      exact ⟨by rw [HV.out]; rfl, HB1.out⟩
    | true =>
      have p2 := cellH HXC.out 2
      have p3 := cellH HXC.out 3
      have p4 := cellH HXC.out 4
      have p5 := cellH HXC.out 5
      have p6 := cellH HXC.out 6
      have q2 := cellH HYC.out 2
      have q3 := cellH HYC.out 3
      have q4 := cellH HYC.out 4
      have q5 := cellH HYC.out 5
      have q6 := cellH HYC.out 6
      simp at p2 p3 p4 p5 p6 q2 q3 q4 q5 q6
      by_cases h0 : t.retry = u.retry
      · have c0 : (t.retry == u.retry) = true := beq_iff_eq.2 h0
        by_cases h1 : t.time = u.time
        · have c1 : (t.time == u.time) = true := beq_iff_eq.2 h1
          by_cases h2 : t.need = u.need
          · have c2 : (t.need == u.need) = true := beq_iff_eq.2 h2
            by_cases h3 : t.lv = u.lv ∧ t.st = u.st
            · have c3 : sameB t.lv t.st u.lv u.st = true := by simp [sameB, h3.1, h3.2]
              have HV := Lib.hid (show r = true by rw [HR.out, sameT, decide_eq_true HN.out, decide_eq_true h0, decide_eq_true h1, decide_eq_true h2, decide_eq_true h3, ← HQ.out]; rfl)
              clear h0 h1 h2 h3
              go_wp2_with fail
              go_ret
              exact ⟨by rw [HV.out]; rfl, HB1.out⟩
            · have c3 : sameB t.lv t.st u.lv u.st = false := by unfold sameB; simp; exact fun e1 e2 => h3 ⟨e1, e2⟩
              have HV := Lib.hid (show r = false by rw [HR.out]; exact Bool.eq_false_iff.2 (fun h => h3 (by rw [sameT_iff.1 h]; exact ⟨rfl, rfl⟩)))
              clear h0 h1 h2 h3
              go_wp2_with fail
              go_ret
              exact ⟨by rw [HV.out]; rfl, HB1.out⟩
          · have c2 : (t.need == u.need) = false := beq_eq_false_iff_ne.2 h2
            have HV := Lib.hid (show r = false by rw [HR.out]; exact Bool.eq_false_iff.2 (fun h => h2 (by rw [sameT_iff.1 h])))
            clear h0 h1 h2
            go_wp2_with fail
            go_ret
            exact ⟨by rw [HV.out]; rfl, HB1.out⟩
        · have c1 : (t.time == u.time) = false := beq_eq_false_iff_ne.2 h1
          have HV := Lib.hid (show r = false by rw [HR.out]; exact Bool.eq_false_iff.2 (fun h => h1 (by rw [sameT_iff.1 h])))
          clear h0 h1
          go_wp2_with fail
          go_ret
          exact ⟨by rw [HV.out]; rfl, HB1.out⟩
      · have c0 : (t.retry == u.retry) = false := beq_eq_false_iff_ne.2 h0
        have HV := Lib.hid (show r = false by rw [HR.out]; exact Bool.eq_false_iff.2 (fun h => h0 (by rw [sameT_iff.1 h])))
        clear h0
        go_wp2_with fail
        go_ret
        exact ⟨by rw [HV.out]; rfl, HB1.out⟩
  · have b1 : (t.name.toList == u.name.toList) = false := by rw [ba_same]; exact decide_eq_false hn
    have HV := Lib.hid (show r = false by rw [HR.out, sameT, decide_eq_false hn]; rfl)
    clear hn
    go_wp2_with fail
    go_ret
    exact ⟨by rw [HV.out]; rfl, HB0.out⟩
set_option maxHeartbeats 2000000 in
set_option maxRecDepth 100000 in
theorem eqfunc_is {ts us : List TkP} (hA : TksAt w A ts) (hB : TksAt w B us) (hts : ts.length ≤ 1000000) (hta : ∀ t ∈ ts, t.after.length ≤ 1000000) (hua : ∀ t ∈ us, t.after.length ≤ 1000000) :
    Calls Tryz.prog 26 #[.slice A ts.length c, .slice B us.length d, .func (.func 27) #[] #[]] w fun e w' => e = .returned (.bool (sameL ts us)) ∧ Below w.heap.size w w' := by
  obtain ⟨r, hr⟩ : ∃ r, r = sameL ts us := ⟨_, rfl⟩
  rw [← hr]
  have HR := Lib.hid hr
  have HA := Lib.hid hA
  have HB := Lib.hid hB
  have HTA := Lib.hid hta
  have HUA := Lib.hid hua
  clear hr hA hB hta hua
  go_enter Tryz.func26, Tryz.ntmps26
  by_cases hl : ts.length = us.length
  · have HL := Lib.hid hl
    have hl' : ((ts.length : Int) != (us.length : Int)) = false := by rw [bne_eq_false_iff_eq]; omega
    have HS := Lib.hid (show r = sameL (ts.drop 0) (us.drop 0) from HR.out)
    clear hl
    go_wp2_with fail
    go_loopw [17] (fun i wr => ∃ k : Nat, i = .int .i64 k ∧ k ≤ ts.length ∧ r = sameL (ts.drop k) (us.drop k) ∧ Below w.heap.size w wr) (fun i _ => ts.length - (intOf i).toNat)
    case atStart => exact ⟨0, rfl, Nat.zero_le _, HS.out, Below.refl _ _⟩
    case round =>
      obtain ⟨k, rfl, hk, hrr, hbw⟩ := hrel
      have HRR := Lib.hid hrr
      have HBW := Lib.hid hbw
      clear hrr hbw HS
      by_cases hlt : k < ts.length
      · obtain ⟨t, ht⟩ : ∃ t, ts[k]? = some t := ⟨_, List.getElem?_eq_getElem hlt⟩
        obtain ⟨u, hu⟩ : ∃ u, us[k]? = some u := ⟨_, List.getElem?_eq_getElem (by have := HL.out; omega)⟩
        have HS := Lib.hid (show r = (sameT t u && sameL (ts.drop (k + 1)) (us.drop (k + 1))) by rw [HRR.out, drop_any ht, drop_any hu, sameL])
        have hta := HTA.out t (List.mem_of_getElem? ht)
        have hua := HUA.out u (List.mem_of_getElem? hu)
        obtain ⟨pa, B1, c1, rfl, p0, pj, hN1, _⟩ := (HA.out.later HBW.out).at_ ht
        obtain ⟨pb, B2, c2, rfl, q0, qj, hN2, _⟩ := (HB.out.later HBW.out).at_ hu
        have HN1 := Lib.hid hN1
        have HN2 := Lib.hid hN2
        have p1 := pj 1 _ rfl
        have p2 := pj 2 _ rfl
        have p3 := pj 3 _ rfl
        have p4 := pj 4 _ rfl
        have p5 := pj 5 _ rfl
        have p6 := pj 6 _ rfl
        have q1 := qj 1 _ rfl
        have q2 := qj 2 _ rfl
        have q3 := qj 3 _ rfl
        have q4 := qj 4 _ rfl
        have q5 := qj 5 _ rfl
        have q6 := qj 6 _ rfl
        have hpb : (pa.add (k * 7)).block < wr.heap.size := World.block_lt_of_cell? wr _ p0
        have hqb : (pb.add (k * 7)).block < wr.heap.size := World.block_lt_of_cell? wr _ q0
        clear pj qj hN1 hN2 ht hu HRR
        have hk0 : (0 : Int) ≤ (k : Int) := by omega
        have hkl : (k : Int) < (ts.length : Int) := by omega
        have hku : (k : Int) < (us.length : Int) := by have := HL.out; omega
        have hST := fun (x : World) (hx : Below wr.heap.size wr x) => sametask_is (c := c1) (d := c2) (HN1.out.later hx) (HN2.out.later hx) hta hua
        have HST := Lib.hid hST
        clear hST hta hua
        obtain ⟨q, hq⟩ : ∃ q, q = sameT t u := ⟨_, rfl⟩
        rw [← hq] at HS HST
        clear hq
        unfold tkA at HST
        go_wp2_with fail
        refine (HST.out _ (by first | exact (Below.refl _ _) | exact ((Below.refl _ _).alloc (Nat.le_refl _) _).alloc (by simp) _)).mono ?_
        rintro e w1 ⟨rfl, hb1⟩
        have HB1 := Lib.hid (below_step HBW.out (((Below.refl _ _).alloc (Nat.le_refl _) _).trans (((Below.refl _ _).alloc (by simp) _).trans (hb1.mono (by simp; omega)))))
        clear hb1
        cases q with
        | false =>
          have HV := Lib.hid (show r = false by rw [HS.out, Bool.false_and])
          go_wp2_with fail
          go_ret
          exact ⟨by rw [HV.out]; rfl, HB1.out⟩
        | true =>
          go_wp2_with fail
          go_roundw
          · exact ⟨k + 1, by go_num, by omega, by rw [HS.out, Bool.true_and], HB1.out⟩
          · simp [intOf]; omega
      · have hke : k = ts.length := by omega
        have HV := Lib.hid (show r = true by rw [HRR.out, List.drop_eq_nil_of_le (by omega), List.drop_eq_nil_of_le (by have := HL.out; omega)]; rfl)
        clear HRR
        subst hke
        go_wp2_with fail
        go_ret
        exact ⟨by rw [HV.out]; rfl, HBW.out⟩
  · have hl' : ((ts.length : Int) != (us.length : Int)) = true := by rw [bne_iff_ne]; omega
    have HV := Lib.hid (show r = false by rw [HR.out, sameL_len hl])
    clear hl
    go_wp2_with fail
    go_ret
    exact ⟨by rw [HV.out]; rfl, Below.refl _ _⟩
set_option maxHeartbeats 2000000 in
set_option maxRecDepth 100000 in
theorem same_is_ {n m : ByteArray} {ts us : List TkP} (hA : TksAt w A ts) (hB : TksAt w B us) (hts : ts.length ≤ 1000000) (hta : ∀ t ∈ ts, t.after.length ≤ 1000000) (hua : ∀ t ∈ us, t.after.length ≤ 1000000) :
    Calls Tryz.prog 14 #[.agg #[.string n, .slice A ts.length c], .agg #[.string m, .slice B us.length d]] w fun e w' => e = .returned (.bool (sameP ⟨n, ts⟩ ⟨m, us⟩)) ∧ Below w.heap.size w w' := by
  obtain ⟨r, hr⟩ : ∃ r, r = sameP ⟨n, ts⟩ ⟨m, us⟩ := ⟨_, rfl⟩
  rw [← hr]
  have HR := Lib.hid hr
  have b1 := (Below.refl w.heap.size w).alloc (Nat.le_refl _) (.cells #[.string n, .slice A ts.length c] 25)
  have b2 := (Below.refl _ (w.alloc (.cells #[.string n, .slice A ts.length c] 25))).alloc (Nat.le_refl _) (.cells #[.string m, .slice B us.length d] 25)
  have HB0 := Lib.hid (below_step b1 b2)
  have HX := Lib.hid (later_at b2 (made_at w (.cells #[.string n, .slice A ts.length c] 25)))
  have m2 := made_at (w.alloc (.cells #[.string n, .slice A ts.length c] 25)) (.cells #[.string m, .slice B us.length d] 25)
  rw [World.size_alloc] at m2
  have HY := Lib.hid m2
  have HE := Lib.hid (eqfunc_is (c := c) (d := d) (hA.later HB0.out) (hB.later HB0.out) hts hta hua)
  clear hr b1 b2 m2 hA hB hta hua hts
  go_enter Tryz.func14, Tryz.ntmps14
  go_upto_region 1 with fail
  generalize hW0 : ((w.alloc (.cells #[.string n, .slice A ts.length c] 25)).alloc (.cells #[.string m, .slice B us.length d] 25)) = W0 at *
  clear hW0
  have x0 := cellH HX.out 0
  have x1 := cellH HX.out 1
  have y0 := cellH HY.out 0
  have y1 := cellH HY.out 1
  simp at x0 x1 y0 y1
  by_cases hnm : n = m
  · have e1 : (n.toList == m.toList) = true := by rw [ba_same]; exact decide_eq_true hnm
    have HS := Lib.hid (show r = sameL ts us by rw [HR.out, sameP, decide_eq_true hnm, Bool.true_and])
    clear hnm
    go_wp2_with fail
    refine HE.out.mono ?_
    rintro e w1 ⟨rfl, hb1⟩
    have HB1 := Lib.hid (below_step HB0.out hb1)
    clear hb1 x0 x1 y0 y1
    go_wp2_with fail
    go_ret
    exact ⟨by rw [HS.out]; rfl, HB1.out⟩
  · have e1 : (n.toList == m.toList) = false := by rw [ba_same]; exact decide_eq_false hnm
    have HS := Lib.hid (show r = false by rw [HR.out, sameP, decide_eq_false hnm, Bool.false_and])
    clear hnm
    go_wp2_with fail
    go_ret
    exact ⟨by rw [HS.out]; rfl, HB0.out⟩
end
end Go.Proofs.YtcfnmjhelhdobaaGreatDoor

namespace Go.Proofs.YtcfnmjhelhdobaaGreatDoor
open Go.RowKit

section
variable {w : World} {A : Option Addr} {c : Nat}
theorem not_ahead {l : List Nat} (h : l.Nodup) {k x : Nat} (hx : l[k]? = some x) : (((l.map Int.ofNat).take k).contains (x : Int)) = false := by
  rw [Bool.eq_false_iff]
  intro hc
  rw [List.contains_iff_mem, ← List.map_take, List.mem_map] at hc
  obtain ⟨y, hy, e⟩ := hc
  obtain rfl : y = x := by have : (y : Int) = (x : Int) := e; omega
  obtain ⟨j, hj⟩ := List.getElem?_of_mem hy
  have hjk : j < k := by
    have := (List.getElem?_eq_some_iff.1 hj).1
    rw [List.length_take] at this
    omega
  rw [List.getElem?_take_of_lt hjk] at hj
  exact absurd ((List.getElem?_inj (List.getElem?_eq_some_iff.1 hj).1 h).1 (hj.trans hx.symm)) (by omega)
theorem contains_is {b o : Nat} {l : List Nat} (hc : ∀ j, j < (l.map Int.ofNat).length → w.cell? ⟨b, o + j, none⟩ = some (.int .i64 ((l.map Int.ofNat).getD j 0))) (h : l.Nodup) (hl : l.length ≤ 1000000) {k x : Nat} (hx : l[k]? = some x) :
    Calls Tryz.prog 76 #[.slice (some ⟨b, o, none⟩) k c, .int .i64 x] w fun e w' => e = .returned (.bool false) ∧ w = w' := by
  have hk := (List.getElem?_eq_some_iff.1 hx).1
  refine (Tryz.slices_Contains_int b o k c (l.map Int.ofNat) x w (by rw [List.length_map]; omega) (by omega) hc).mono ?_
  rintro e w1 ⟨rfl, rfl⟩
  exact ⟨by rw [not_ahead h hx], rfl⟩
set_option maxHeartbeats 1000000 in
set_option maxRecDepth 100000 in
theorem areplaces_is {l : List Nat} {n : Nat} (hA : NatsAt w A l) (h1 : ∀ j ∈ l, j < n) (h2 : l.Nodup) (hn : n ≤ 8) (hl : l.length ≤ 1000000) (hcp : l.length ≤ c) :
    Calls Tryz.prog 53 #[.slice A l.length c, .int .i64 n] w fun e w' => e = .returned (.bool true) ∧ w = w' := by
  have HA := Lib.hid hA
  have H1 := Lib.hid h1
  have H2 := Lib.hid h2
  clear hA h1 h2
  go_enter Tryz.func53, Tryz.ntmps53
  go_wp2_with fail
  go_loopw [9] (fun i wr => ∃ k : Nat, i = .int .i64 k ∧ k ≤ l.length ∧ w = wr) (fun i _ => l.length - (intOf i).toNat)
  case atStart => exact ⟨0, rfl, Nat.zero_le _, rfl⟩
  case round =>
    obtain ⟨k, rfl, hk, rfl⟩ := hrel
    by_cases hlt : k < l.length
    · obtain ⟨x, hx⟩ : ∃ x, l[k]? = some x := ⟨_, List.getElem?_eq_getElem hlt⟩
      obtain ⟨b, o, rfl, hc⟩ := HA.out.flat (by omega)
      have z := hc k (by rw [List.length_map]; exact hlt)
      rw [List.getD_eq_getElem?_getD, List.getElem?_map, hx] at z
      have z : w.cell? ⟨b, o + k, none⟩ = some (.int .i64 (x : Int)) := z
      have z1 : w.cell? ((⟨b, o, none⟩ : Addr).add k) = some (.int .i64 (x : Int)) := cell_of (p := ⟨b, o + k, none⟩) (q := (⟨b, o, none⟩ : Addr).add k) (add_block (⟨b, o, none⟩ : Addr) k).symm (add_off (⟨b, o, none⟩ : Addr) k).symm (by unfold Addr.add; split <;> rfl) z
      have HC := Lib.hid (contains_is (c := c) hc H2.out hl hx)
      have hxn := H1.out x (List.mem_of_getElem? hx)
      have HW := Lib.hid (within_is w x 0 ((n : Int) - 1) true (decide_eq_true ⟨by omega, by omega⟩).symm)
      have hk0 : (0 : Int) ≤ (k : Int) := by omega
      have hkl : (k : Int) < (l.length : Int) := by omega
      have hkl2 : (k : Int) ≤ (c : Int) := by omega
      clear hx hc
      go_wp2_with fail
      refine HW.out.mono ?_
      rintro e w1 ⟨rfl, rfl⟩
      go_wp2_with fail
      refine HC.out.mono ?_
      rintro e w1 ⟨rfl, rfl⟩
      go_wp2_with fail
      go_roundw
      case rel => exact ⟨k + 1, by go_num, by omega, by trivial⟩
      case measure => simp [intOf]; omega
    · have hke : k = l.length := by omega
      subst hke
      go_wp2_with fail
      go_ret
      exact ⟨rfl, rfl⟩
set_option maxHeartbeats 2000000 in
set_option maxRecDepth 100000 in
theorem maybe_is {t : TkP} {n : Nat} (hA : NatsAt w A t.after) (hcp : t.after.length ≤ c) (ht : TaskOk n t) (hn : n ≤ 8) :
    Calls Tryz.prog 30 #[.agg (tkA t A c), .int .i64 n] w fun e w' => e = .returned (.bool true) ∧ Below w.heap.size w w' := by
  have hl : t.after.length ≤ 1000000 := by have := few_below _ _ ht.aft.1 ht.aft.2; omega
  have hb0 := (Below.refl w.heap.size w).alloc (Nat.le_refl _) (.cells (tkA t A c) 47)
  have HB0 := Lib.hid hb0
  have HX := Lib.hid (made_at w (.cells (tkA t A c) 47))
  have HAP := Lib.hid (fun (x : World) (hx : Below w.heap.size w x) => areplaces_is (c := c) (hA.later hx) ht.aft.1 ht.aft.2 hn hl hcp)
  have HIN := Lib.hid (fun x : World => show Calls Tryz.prog 28 #[.string t.name] x (fun e w' => e = .returned (.bool true) ∧ Below x.heap.size x w') by
    have h := isnameM_is t.name x
    rw [name_yes ht.name] at h
    exact h)
  have HT1 := Lib.hid (fun x : World => within_is x t.time 1 100 true (decide_eq_true ht.time).symm)
  have HR1 := Lib.hid (fun x : World => within_is x t.retry 0 5 true (decide_eq_true ht.retry).symm)
  have HOK := Lib.hid ht
  clear hb0 hA ht hn hl hcp
  go_enter Tryz.func30, Tryz.ntmps30
  go_upto_region 1 with fail
  generalize hW0 : (w.alloc (.cells (tkA t A c) 47)) = W0 at *
  clear hW0
  have x0 := cellH HX.out 0
  have x1 := cellH HX.out 1
  have x3 := cellH HX.out 3
  simp at x0 x1 x3
  go_wp2_with fail
  refine (HIN.out _).mono ?_
  rintro e w1 ⟨rfl, hb1⟩
  have HB1 := Lib.hid (below_step HB0.out hb1)
  have HX1 := Lib.hid (later_at hb1 HX.out)
  clear hb1 x0 x1 x3
  have x1 := cellH HX1.out 1
  have x3 := cellH HX1.out 3
  simp at x1 x3
  go_wp2_with fail
  refine (HAP.out _ HB1.out).mono ?_
  rintro e w2 ⟨rfl, rfl⟩
  go_wp2_with fail
  refine (HT1.out _).mono ?_
  rintro e w2 ⟨rfl, rfl⟩
  clear x1 x3
  have x0 := cellH HX1.out 0
  have x1 := cellH HX1.out 1
  have x2 := cellH HX1.out 2
  have x3 := cellH HX1.out 3
  have x4 := cellH HX1.out 4
  have x5 := cellH HX1.out 5
  have x6 := cellH HX1.out 6
  simp at x0 x1 x2 x3 x4 x5 x6
  go_wp2_with fail
  refine (isgate_is _ _ _ _ _ _ _ _).mono ?_
  rintro e w3 ⟨rfl, hb3⟩
  have HB3 := Lib.hid (below_step HB1.out hb3)
  have HX3 := Lib.hid (later_at hb3 HX1.out)
  clear hb3 x0 x1 x2 x3 x4 x5 x6
  have x2 := cellH HX3.out 2
  have x4 := cellH HX3.out 4
  have x5 := cellH HX3.out 5
  have x6 := cellH HX3.out 6
  simp at x2 x4 x5 x6
  by_cases hg : t.need = 0
  · have hg' : (t.need != 0) = false := by rw [bne_eq_false_iff_eq]; exact hg
    have hp := HOK.out.plain hg
    have hz : sameB t.lv t.st 0 0 = true := by simp [sameB, hp.1, hp.2]
    clear hg hp
    go_wp2_with fail
    refine (HR1.out _).mono ?_
    rintro e w4 ⟨rfl, rfl⟩
    go_wp2_with fail
    go_ret
    exact ⟨rfl, HB3.out⟩
  · have hg' : (t.need != 0) = true := by rw [bne_iff_ne]; exact hg
    have hnd := HOK.out.need
    have hr : t.retry = 0 := HOK.out.gate (by omega)
    have HN1 := Lib.hid (fun x : World => within_is x t.need 1 4 true (decide_eq_true ⟨by omega, by omega⟩).symm)
    have hlab := HOK.out.lab
    have HLB := Lib.hid (fun x : World => right_is t.lv t.st true (by unfold rightB; simp; omega) x)
    have hr' : (t.retry == 0) = true := beq_iff_eq.2 hr
    clear hg hnd hr hlab
    go_wp2_with fail
    refine (HN1.out _).mono ?_
    rintro e w4 ⟨rfl, rfl⟩
    go_wp2_with fail
    refine (HLB.out _).mono ?_
    rintro e w5 ⟨rfl, hb5⟩
    have HB5 := Lib.hid (below_step HB3.out hb5)
    have HX5 := Lib.hid (later_at hb5 HX3.out)
    clear hb5 x2 x4 x5 x6
    have x2 := cellH HX5.out 2
    simp at x2
    go_wp2_with fail
    go_ret
    exact ⟨rfl, HB5.out⟩
theorem name_new {ts : List TkP} (hd : (ts.map (·.name)).Nodup) {k : Nat} {t : TkP} (ht : ts[k]? = some t) : memB t.name ((ts.map (·.name)).take k) = false := by
  rw [Bool.eq_false_iff]
  intro hc
  rw [memB_iff] at hc
  obtain ⟨j, hj⟩ := List.getElem?_of_mem hc
  have hjk : j < k := by
    have := (List.getElem?_eq_some_iff.1 hj).1
    rw [List.length_take] at this
    omega
  rw [List.getElem?_take_of_lt hjk] at hj
  have hk : (ts.map (·.name))[k]? = some t.name := by rw [List.getElem?_map, ht]; rfl
  exact absurd ((List.getElem?_inj (List.getElem?_eq_some_iff.1 hj).1 hd).1 (hj.trans hk.symm)) (by omega)
theorem names_next {ts : List TkP} {k : Nat} {t : TkP} (ht : ts[k]? = some t) : (ts.map (·.name)).take (k + 1) = (ts.map (·.name)).take k ++ [t.name] := by
  rw [List.take_add_one, List.getElem?_map, ht]
  rfl
set_option maxHeartbeats 2000000 in
set_option maxRecDepth 100000 in
theorem mright_is {p : PiP} (hA : TksAt w A p.tasks) (hp : RightPi p) : Calls Tryz.prog 15 #[.agg #[.string p.name, .slice A p.tasks.length c]] w fun e w' => e = .returned (.bool true) ∧ Below w.heap.size w w' := by
  have hb0 := (Below.refl w.heap.size w).alloc (Nat.le_refl _) (.cells #[.string p.name, .slice A p.tasks.length c] 25)
  have HB0 := Lib.hid hb0
  have HX := Lib.hid (made_at w (.cells #[.string p.name, .slice A p.tasks.length c] 25))
  have HA := Lib.hid hA
  have HP := Lib.hid hp
  have HIN := Lib.hid (fun x : World => show Calls Tryz.prog 28 #[.string p.name] x (fun e w' => e = .returned (.bool true) ∧ Below x.heap.size x w') by
    have h := isnameM_is p.name x
    rw [name_yes hp.name] at h
    exact h)
  have hmm := @run_makeMap Tryz.prog
  have HLN := Lib.hid (fun x : World => within_is x (p.tasks.length : Int) 1 8 true (decide_eq_true ⟨by have := hp.few; omega, by have := hp.few; omega⟩).symm)
  clear hb0 hA hp
  go_enter Tryz.func15, Tryz.ntmps15
  go_upto_region 1 with fail
  generalize hW0 : (w.alloc (.cells #[.string p.name, .slice A p.tasks.length c] 25)) = W0 at *
  clear hW0
  have x0 := cellH HX.out 0
  have x1 := cellH HX.out 1
  simp at x0 x1
  go_wp2_with fail
  refine (HIN.out _).mono ?_
  rintro e w1 ⟨rfl, hb1⟩
  have HB1 := Lib.hid (below_step HB0.out hb1)
  have HX1 := Lib.hid (later_at hb1 HX.out)
  clear hb1 x0 x1
  have x1 := cellH HX1.out 1
  simp at x1
  go_wp2_with fail
  refine (HLN.out _).mono ?_
  rintro e w2 ⟨rfl, rfl⟩
  have hb2 := (Below.refl w1.heap.size w1).alloc (Nat.le_refl _) (.map #[] 0)
  have HB2 := Lib.hid (below_step HB1.out hb2)
  have HX2 := Lib.hid (later_at hb2 HX1.out)
  have HM2 := Lib.hid (SetIs.made w1)
  have HPM := Lib.hid (show w.heap.size < w1.heap.size from (Array.getElem?_eq_some_iff.1 HX1.out).1)
  clear hb2 x1
  have x1 := cellH HX2.out 1
  simp at x1
  go_wp2_with fail
  go_loopw [21] (fun i wr => ∃ k : Nat, i = .int .i64 k ∧ k ≤ p.tasks.length ∧ Hid (Below w.heap.size w wr) ∧ Hid (wr.heap[w.heap.size]? = some (.cells #[.string p.name, .slice A p.tasks.length c] 25 (0, 0))) ∧ Hid (SetIs wr w1.heap.size k ((p.tasks.map (·.name)).take k))) (fun i _ => p.tasks.length - (intOf i).toNat)
  case atStart => exact ⟨0, rfl, Nat.zero_le _, HB2, HX2, HM2⟩
  case round =>
    obtain ⟨k, rfl, hk, HBW, HXW, HMW⟩ := hrel
    clear x1
    have x1 := cellH HXW.out 1
    simp at x1
    by_cases hlt : k < p.tasks.length
    · obtain ⟨t, ht⟩ : ∃ t, p.tasks[k]? = some t := ⟨_, List.getElem?_eq_getElem hlt⟩
      obtain ⟨pa, B1, c1, rfl, p0, pj, hN1, hcp⟩ := (HA.out.later HBW.out).at_ ht
      have p1 := pj 1 _ rfl
      have p2 := pj 2 _ rfl
      have p3 := pj 3 _ rfl
      have p4 := pj 4 _ rfl
      have p5 := pj 5 _ rfl
      have p6 := pj 6 _ rfl
      have hpb : (pa.add (k * 7)).block < wr.heap.size := World.block_lt_of_cell? wr _ p0
      have hk0 : (0 : Int) ≤ (k : Int) := by omega
      have hkl : (k : Int) < (p.tasks.length : Int) := by omega
      have hb1 := (Below.refl wr.heap.size wr).alloc (Nat.le_refl _) (.cells (tkA t B1 c1) 47)
      have HT := Lib.hid (made_at wr (.cells (tkA t B1 c1) 47))
      have HB3 := Lib.hid (below_step HBW.out hb1)
      have HX3 := Lib.hid (later_at hb1 HXW.out)
      have HM3 := Lib.hid (HMW.out.later hb1)
      have HMB := Lib.hid (maybe_is (hN1.later hb1) hcp (HP.out.task t (List.mem_of_getElem? ht)) HP.out.few.2)
      have hnew := name_new HP.out.names ht
      have HNX := Lib.hid (names_next ht)
      have HNO := Lib.hid (HP.out.task t (List.mem_of_getElem? ht)).name
      have hk8 := HP.out.few.2
      have HNW := Lib.hid hnew
      clear pj hN1 hcp hb1 hnew ht
      unfold tkA at HMB HT
      go_upto_region 7 with fail
      generalize hW3 : (wr.alloc (.cells #[.string t.name, .slice B1 t.after.length c1, .int .i64 t.retry, .int .i64 t.time, .int .i64 t.need, .int .i64 t.lv, .int .u16 t.st] 47)) = W3 at *
      clear hW3 p0 p1 p2 p3 p4 p5 p6 x1
      have y0 := cellH HT.out 0
      have y1 := cellH HT.out 1
      have y2 := cellH HT.out 2
      have y3 := cellH HT.out 3
      have y4 := cellH HT.out 4
      have y5 := cellH HT.out 5
      have y6 := cellH HT.out 6
      have x1 := cellH HX3.out 1
      simp at y0 y1 y2 y3 y4 y5 y6 x1
      go_wp2_with fail
      refine HMB.out.mono ?_
      rintro e w4 ⟨rfl, hb4⟩
      have HB4 := Lib.hid (below_step HB3.out hb4)
      have HX4 := Lib.hid (later_at hb4 HX3.out)
      have HM4 := Lib.hid (HM3.out.later hb4)
      have y0 := cellH (later_at hb4 HT.out) 0
      simp at y0
      have had := add_is HM4.out (by omega) t.name (by have := HNO.out.2.1; omega)
      rw [HNW.out] at had
      have HAD := Lib.hid had
      clear hb4 had x1 y1 y2 y3 y4 y5 y6
      go_wp2_with fail
      refine HAD.out.mono ?_
      rintro e w5 ⟨rfl, hap, hs5⟩
      have hpm := HPM.out
      have HB5 := Lib.hid (HB4.out.trans (hap.below (n := w.heap.size) (fun b e => by omega) HB4.out.size))
      have HX5 := Lib.hid ((hap.block w.heap.size (Array.getElem?_eq_some_iff.1 HX4.out).1 (by omega)).trans HX4.out)
      have HM5 := Lib.hid (show SetIs w5 w1.heap.size (k + 1) ((p.tasks.map (·.name)).take (k + 1)) by rw [HNX.out]; exact hs5)
      clear hap hs5 hpm
      go_wp2_with fail
      go_roundw
      case rel => exact ⟨k + 1, by go_num, by omega, HB5, HX5, HM5⟩
      case measure => simp [intOf]; omega
    · have hke : k = p.tasks.length := by omega
      subst hke
      go_wp2_with fail
      go_ret
      exact ⟨rfl, HBW.out⟩
end
end Go.Proofs.YtcfnmjhelhdobaaGreatDoor
