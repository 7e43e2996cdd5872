/-
  The program's manifest.Right, of pipelines that may be. No further conditions.
-/
import Derived.Test.YtcddbpdebklhnaaGreatDoorMdA
import Derived.Test.YtcddbpdebklhnaaGreatDoorLabelG
import Derived.Test.YtcddbpdebklhnaaGreatDoorManO
import Derived.Test.YtcddbpdebklhnaaGreatDoorFlat
namespace Go.Proofs.YtcddbpdebklhnaaGreatDoor
open Go.RowKit

section
variable {w : World} {A : Option Addr} {c : Nat}
theorem not_ahead {l : List Nat} (h : l.Nodup) {k x : Nat} (hx : l[k]? = some x) : (((l.map Int.ofNat).take k).contains (x : Int)) = false := by
  rw [Bool.eq_false_iff]
  intro hc
  rw [List.contains_iff_mem, ← List.map_take, List.mem_map] at hc
  obtain ⟨y, hy, e⟩ := hc
  obtain rfl : y = x := by have : (y : Int) = (x : Int) := e; omega
  obtain ⟨j, hj⟩ := List.getElem?_of_mem hy
  have hjk : j < k := by
    have := (List.getElem?_eq_some_iff.1 hj).1
    rw [List.length_take] at this
    omega
  rw [List.getElem?_take_of_lt hjk] at hj
  exact absurd ((List.getElem?_inj (List.getElem?_eq_some_iff.1 hj).1 h).1 (hj.trans hx.symm)) (by omega)
theorem contains_is {b o : Nat} {l : List Nat} (hc : ∀ j, j < (l.map Int.ofNat).length → w.cell? ⟨b, o + j, none⟩ = some (.int .i64 ((l.map Int.ofNat).getD j 0))) (h : l.Nodup) (hl : l.length ≤ 1000000) {k x : Nat} (hx : l[k]? = some x) :
    Calls Tryz.prog 46 #[.slice (some ⟨b, o, none⟩) k c, .int .i64 x] w fun e w' => e = .returned (.bool false) ∧ w = w' := by
  have hk := (List.getElem?_eq_some_iff.1 hx).1
  refine (Tryz.slices_Contains_int b o k c (l.map Int.ofNat) x w (by rw [List.length_map]; omega) (by omega) hc).mono ?_
  rintro e w1 ⟨rfl, rfl⟩
  exact ⟨by rw [not_ahead h hx], rfl⟩
set_option maxHeartbeats 1000000 in
set_option maxRecDepth 100000 in
theorem areplaces_is {l : List Nat} {n : Nat} (hA : NatsAt w A l) (h1 : ∀ j ∈ l, j < n) (h2 : l.Nodup) (hn : n ≤ 8) (hl : l.length ≤ 1000000) (hcp : l.length ≤ c) :
    Calls Tryz.prog 70 #[.slice A l.length c, .int .i64 n] w fun e w' => e = .returned (.bool true) ∧ w = w' := by
  have HA := Lib.hid hA
  have H1 := Lib.hid h1
  have H2 := Lib.hid h2
  clear hA h1 h2
  go_enter Tryz.func70, Tryz.ntmps70
  go_wp2_with fail
  go_loopw [9] (fun i wr => ∃ k : Nat, i = .int .i64 k ∧ k ≤ l.length ∧ w = wr) (fun i _ => l.length - (intOf i).toNat)
  case atStart => exact ⟨0, rfl, Nat.zero_le _, rfl⟩
  case round =>
    obtain ⟨k, rfl, hk, rfl⟩ := hrel
    by_cases hlt : k < l.length
    · obtain ⟨x, hx⟩ : ∃ x, l[k]? = some x := ⟨_, List.getElem?_eq_getElem hlt⟩
      obtain ⟨b, o, rfl, hc⟩ := HA.out.flat (by omega)
      have z := hc k (by rw [List.length_map]; exact hlt)
      rw [List.getD_eq_getElem?_getD, List.getElem?_map, hx] at z
      have z : w.cell? ⟨b, o + k, none⟩ = some (.int .i64 (x : Int)) := z
      have z1 : w.cell? ((⟨b, o, none⟩ : Addr).add k) = some (.int .i64 (x : Int)) := cell_of (p := ⟨b, o + k, none⟩) (q := (⟨b, o, none⟩ : Addr).add k) (add_block (⟨b, o, none⟩ : Addr) k).symm (add_off (⟨b, o, none⟩ : Addr) k).symm (by unfold Addr.add; split <;> rfl) z
      have HC := Lib.hid (contains_is (c := c) hc H2.out hl hx)
      have hxn := H1.out x (List.mem_of_getElem? hx)
      have HW := Lib.hid (within_is w x 0 ((n : Int) - 1) true (decide_eq_true ⟨by omega, by omega⟩).symm)
      have hk0 : (0 : Int) ≤ (k : Int) := by omega
      have hkl : (k : Int) < (l.length : Int) := by omega
      have hkl2 : (k : Int) ≤ (c : Int) := by omega
      clear hx hc
      go_wp2_with fail
      refine HW.out.mono ?_
      rintro e w1 ⟨rfl, rfl⟩
      go_wp2_with fail
      refine HC.out.mono ?_
      rintro e w1 ⟨rfl, rfl⟩
      go_wp2_with fail
      go_roundw
      case rel => exact ⟨k + 1, by go_num, by omega, by trivial⟩
      case measure => simp [intOf]; omega
    · have hke : k = l.length := by omega
      subst hke
      go_wp2_with fail
      go_ret
      exact ⟨rfl, rfl⟩
set_option maxHeartbeats 2000000 in
set_option maxRecDepth 100000 in
theorem maybe_is {t : TkP} {n : Nat} (hA : NatsAt w A t.after) (hcp : t.after.length ≤ c) (ht : TaskOk n t) (hn : n ≤ 8) :
    Calls Tryz.prog 60 #[.agg (tkA t A c), .int .i64 n] w fun e w' => e = .returned (.bool true) ∧ Below w.heap.size w w' := by
  have hl : t.after.length ≤ 1000000 := by have := few_below _ _ ht.aft.1 ht.aft.2; omega
  have hb0 := (Below.refl w.heap.size w).alloc (Nat.le_refl _) (.cells (tkA t A c) 43)
  have HB0 := Lib.hid hb0
  have HX := Lib.hid (made_at w (.cells (tkA t A c) 43))
  have HAP := Lib.hid (fun (x : World) (hx : Below w.heap.size w x) => areplaces_is (c := c) (hA.later hx) ht.aft.1 ht.aft.2 hn hl hcp)
  have HIN := Lib.hid (fun x : World => show Calls Tryz.prog 58 #[.string t.name] x (fun e w' => e = .returned (.bool true) ∧ Below x.heap.size x w') by
    have h := isnameM_is t.name x
    rw [name_yes ht.name] at h
    exact h)
  have HT1 := Lib.hid (fun x : World => within_is x t.time 1 100 true (decide_eq_true ht.time).symm)
  have HR1 := Lib.hid (fun x : World => within_is x t.retry 0 5 true (decide_eq_true ht.retry).symm)
  have HOK := Lib.hid ht
  clear hb0 hA ht hn hl hcp
  go_enter Tryz.func60, Tryz.ntmps60
  go_upto_region 1 with fail
  generalize hW0 : (w.alloc (.cells (tkA t A c) 43)) = W0 at *
  clear hW0
  have x0 := cellH HX.out 0
  have x1 := cellH HX.out 1
  have x3 := cellH HX.out 3
  simp at x0 x1 x3
  go_wp2_with fail
  refine (HIN.out _).mono ?_
  rintro e w1 ⟨rfl, hb1⟩
  have HB1 := Lib.hid (below_step HB0.out hb1)
  have HX1 := Lib.hid (later_at hb1 HX.out)
  clear hb1 x0 x1 x3
  have x1 := cellH HX1.out 1
  have x3 := cellH HX1.out 3
  simp at x1 x3
  go_wp2_with fail
  refine (HAP.out _ HB1.out).mono ?_
  rintro e w2 ⟨rfl, rfl⟩
  go_wp2_with fail
  refine (HT1.out _).mono ?_
  rintro e w2 ⟨rfl, rfl⟩
  clear x1 x3
  have x0 := cellH HX1.out 0
  have x1 := cellH HX1.out 1
  have x2 := cellH HX1.out 2
  have x3 := cellH HX1.out 3
  have x4 := cellH HX1.out 4
  have x5 := cellH HX1.out 5
  have x6 := cellH HX1.out 6
  simp at x0 x1 x2 x3 x4 x5 x6
  go_wp2_with fail
  refine (isgate_is _ _ _ _ _ _ _ _).mono ?_
  rintro e w3 ⟨rfl, hb3⟩
  have HB3 := Lib.hid (below_step HB1.out hb3)
  have HX3 := Lib.hid (later_at hb3 HX1.out)
  clear hb3 x0 x1 x2 x3 x4 x5 x6
  have x2 := cellH HX3.out 2
  have x4 := cellH HX3.out 4
  have x5 := cellH HX3.out 5
  have x6 := cellH HX3.out 6
  simp at x2 x4 x5 x6
  by_cases hg : t.need = 0
  · have hg' : (t.need != 0) = false := by rw [bne_eq_false_iff_eq]; exact hg
    have hp := HOK.out.plain hg
    have hz : sameB t.lv t.st 0 0 = true := by simp [sameB, hp.1, hp.2]
    clear hg hp
    go_wp2_with fail
    refine (HR1.out _).mono ?_
    rintro e w4 ⟨rfl, rfl⟩
    go_wp2_with fail
    go_ret
    exact ⟨rfl, HB3.out⟩
  · have hg' : (t.need != 0) = true := by rw [bne_iff_ne]; exact hg
    have hnd := HOK.out.need
    have hr : t.retry = 0 := HOK.out.gate (by omega)
    have HN1 := Lib.hid (fun x : World => within_is x t.need 1 4 true (decide_eq_true ⟨by omega, by omega⟩).symm)
    have hlab := HOK.out.lab
    have HLB := Lib.hid (fun x : World => right_is t.lv t.st true (by unfold rightB; simp; omega) x)
    have hr' : (t.retry == 0) = true := beq_iff_eq.2 hr
    clear hg hnd hr hlab
    go_wp2_with fail
    refine (HN1.out _).mono ?_
    rintro e w4 ⟨rfl, rfl⟩
    go_wp2_with fail
    refine (HLB.out _).mono ?_
    rintro e w5 ⟨rfl, hb5⟩
    have HB5 := Lib.hid (below_step HB3.out hb5)
    have HX5 := Lib.hid (later_at hb5 HX3.out)
    clear hb5 x2 x4 x5 x6
    have x2 := cellH HX5.out 2
    simp at x2
    go_wp2_with fail
    go_ret
    exact ⟨rfl, HB5.out⟩
theorem name_new {ts : List TkP} (hd : (ts.map (·.name)).Nodup) {k : Nat} {t : TkP} (ht : ts[k]? = some t) : memB t.name ((ts.map (·.name)).take k) = false := by
  rw [Bool.eq_false_iff]
  intro hc
  rw [memB_iff] at hc
  obtain ⟨j, hj⟩ := List.getElem?_of_mem hc
  have hjk : j < k := by
    have := (List.getElem?_eq_some_iff.1 hj).1
    rw [List.length_take] at this
    omega
  rw [List.getElem?_take_of_lt hjk] at hj
  have hk : (ts.map (·.name))[k]? = some t.name := by rw [List.getElem?_map, ht]; rfl
  exact absurd ((List.getElem?_inj (List.getElem?_eq_some_iff.1 hj).1 hd).1 (hj.trans hk.symm)) (by omega)
theorem names_next {ts : List TkP} {k : Nat} {t : TkP} (ht : ts[k]? = some t) : (ts.map (·.name)).take (k + 1) = (ts.map (·.name)).take k ++ [t.name] := by
  rw [List.take_add_one, List.getElem?_map, ht]
  rfl
set_option maxHeartbeats 2000000 in
set_option maxRecDepth 100000 in
theorem mright_is {p : PiP} (hA : TksAt w A p.tasks) (hp : RightPi p) : Calls Tryz.prog 44 #[.agg #[.string p.name, .slice A p.tasks.length c]] w fun e w' => e = .returned (.bool true) ∧ Below w.heap.size w w' := by
  have hb0 := (Below.refl w.heap.size w).alloc (Nat.le_refl _) (.cells #[.string p.name, .slice A p.tasks.length c] 24)
  have HB0 := Lib.hid hb0
  have HX := Lib.hid (made_at w (.cells #[.string p.name, .slice A p.tasks.length c] 24))
  have HA := Lib.hid hA
  have HP := Lib.hid hp
  have HIN := Lib.hid (fun x : World => show Calls Tryz.prog 58 #[.string p.name] x (fun e w' => e = .returned (.bool true) ∧ Below x.heap.size x w') by
    have h := isnameM_is p.name x
    rw [name_yes hp.name] at h
    exact h)
  have hmm := @run_makeMap Tryz.prog
  have HLN := Lib.hid (fun x : World => within_is x (p.tasks.length : Int) 1 8 true (decide_eq_true ⟨by have := hp.few; omega, by have := hp.few; omega⟩).symm)
  clear hb0 hA hp
  go_enter Tryz.func44, Tryz.ntmps44
  go_upto_region 1 with fail
  generalize hW0 : (w.alloc (.cells #[.string p.name, .slice A p.tasks.length c] 24)) = W0 at *
  clear hW0
  have x0 := cellH HX.out 0
  have x1 := cellH HX.out 1
  simp at x0 x1
  go_wp2_with fail
  refine (HIN.out _).mono ?_
  rintro e w1 ⟨rfl, hb1⟩
  have HB1 := Lib.hid (below_step HB0.out hb1)
  have HX1 := Lib.hid (later_at hb1 HX.out)
  clear hb1 x0 x1
  have x1 := cellH HX1.out 1
  simp at x1
  go_wp2_with fail
  refine (HLN.out _).mono ?_
  rintro e w2 ⟨rfl, rfl⟩
  have hb2 := (Below.refl w1.heap.size w1).alloc (Nat.le_refl _) (.map #[] 0)
  have HB2 := Lib.hid (below_step HB1.out hb2)
  have HX2 := Lib.hid (later_at hb2 HX1.out)
  have HM2 := Lib.hid (SetIs.made w1)
  have HPM := Lib.hid (show w.heap.size < w1.heap.size from (Array.getElem?_eq_some_iff.1 HX1.out).1)
  clear hb2 x1
  have x1 := cellH HX2.out 1
  simp at x1
  go_wp2_with fail
  go_loopw [21] (fun i wr => ∃ k : Nat, i = .int .i64 k ∧ k ≤ p.tasks.length ∧ Hid (Below w.heap.size w wr) ∧ Hid (wr.heap[w.heap.size]? = some (.cells #[.string p.name, .slice A p.tasks.length c] 24 (0, 0))) ∧ Hid (SetIs wr w1.heap.size k ((p.tasks.map (·.name)).take k))) (fun i _ => p.tasks.length - (intOf i).toNat)
  case atStart => exact ⟨0, rfl, Nat.zero_le _, HB2, HX2, HM2⟩
  case round =>
    obtain ⟨k, rfl, hk, HBW, HXW, HMW⟩ := hrel
    clear x1
    have x1 := cellH HXW.out 1
    simp at x1
    by_cases hlt : k < p.tasks.length
    · obtain ⟨t, ht⟩ : ∃ t, p.tasks[k]? = some t := ⟨_, List.getElem?_eq_getElem hlt⟩
      obtain ⟨pa, B1, c1, rfl, p0, pj, hN1, hcp⟩ := (HA.out.later HBW.out).at_ ht
      have p1 := pj 1 _ rfl
      have p2 := pj 2 _ rfl
      have p3 := pj 3 _ rfl
      have p4 := pj 4 _ rfl
      have p5 := pj 5 _ rfl
      have p6 := pj 6 _ rfl
      have hpb : (pa.add (k * 7)).block < wr.heap.size := World.block_lt_of_cell? wr _ p0
      have hk0 : (0 : Int) ≤ (k : Int) := by omega
      have hkl : (k : Int) < (p.tasks.length : Int) := by omega
      have hb1 := (Below.refl wr.heap.size wr).alloc (Nat.le_refl _) (.cells (tkA t B1 c1) 43)
      have HT := Lib.hid (made_at wr (.cells (tkA t B1 c1) 43))
      have HB3 := Lib.hid (below_step HBW.out hb1)
      have HX3 := Lib.hid (later_at hb1 HXW.out)
      have HM3 := Lib.hid (HMW.out.later hb1)
      have HMB := Lib.hid (maybe_is (hN1.later hb1) hcp (HP.out.task t (List.mem_of_getElem? ht)) HP.out.few.2)
      have hnew := name_new HP.out.names ht
      have HNX := Lib.hid (names_next ht)
      have HNO := Lib.hid (HP.out.task t (List.mem_of_getElem? ht)).name
      have hk8 := HP.out.few.2
      have HNW := Lib.hid hnew
      clear pj hN1 hcp hb1 hnew ht
      unfold tkA at HMB HT
      go_upto_region 7 with fail
      generalize hW3 : (wr.alloc (.cells #[.string t.name, .slice B1 t.after.length c1, .int .i64 t.retry, .int .i64 t.time, .int .i64 t.need, .int .i64 t.lv, .int .u16 t.st] 43)) = W3 at *
      clear hW3 p0 p1 p2 p3 p4 p5 p6 x1
      have y0 := cellH HT.out 0
      have y1 := cellH HT.out 1
      have y2 := cellH HT.out 2
      have y3 := cellH HT.out 3
      have y4 := cellH HT.out 4
      have y5 := cellH HT.out 5
      have y6 := cellH HT.out 6
      have x1 := cellH HX3.out 1
      simp at y0 y1 y2 y3 y4 y5 y6 x1
      go_wp2_with fail
      refine HMB.out.mono ?_
      rintro e w4 ⟨rfl, hb4⟩
      have HB4 := Lib.hid (below_step HB3.out hb4)
      have HX4 := Lib.hid (later_at hb4 HX3.out)
      have HM4 := Lib.hid (HM3.out.later hb4)
      have y0 := cellH (later_at hb4 HT.out) 0
      simp at y0
      have had := add_is HM4.out (by omega) t.name (by have := HNO.out.2.1; omega)
      rw [HNW.out] at had
      have HAD := Lib.hid had
      clear hb4 had x1 y1 y2 y3 y4 y5 y6
      go_wp2_with fail
      refine HAD.out.mono ?_
      rintro e w5 ⟨rfl, hap, hs5⟩
      have hpm := HPM.out
      have HB5 := Lib.hid (HB4.out.trans (hap.below (n := w.heap.size) (fun b e => by omega) HB4.out.size))
      have HX5 := Lib.hid ((hap.block w.heap.size (Array.getElem?_eq_some_iff.1 HX4.out).1 (by omega)).trans HX4.out)
      have HM5 := Lib.hid (show SetIs w5 w1.heap.size (k + 1) ((p.tasks.map (·.name)).take (k + 1)) by rw [HNX.out]; exact hs5)
      clear hap hs5 hpm
      go_wp2_with fail
      go_roundw
      case rel => exact ⟨k + 1, by go_num, by omega, HB5, HX5, HM5⟩
      case measure => simp [intOf]; omega
    · have hke : k = p.tasks.length := by omega
      subst hke
      go_wp2_with fail
      go_ret
      exact ⟨rfl, HBW.out⟩
end
end Go.Proofs.YtcddbpdebklhnaaGreatDoor
