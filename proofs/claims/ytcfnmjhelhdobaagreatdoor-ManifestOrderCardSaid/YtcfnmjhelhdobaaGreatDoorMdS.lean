/-
  The program's text and Print, of pipelines that may be; Print of the empty one. Condition: what the library's variables hold.
-/
import Derived.Test.YtcfnmjhelhdobaaGreatDoorMdR
import Derived.Test.YtcfnmjhelhdobaaGreatDoorLexM
import Derived.Test.YtcfnmjhelhdobaaGreatDoorManW
namespace Go.Proofs.YtcfnmjhelhdobaaGreatDoor
open Go.RowKit

theorem digB_size {n : Int} (h0 : 0 ≤ n) (h1 : n ≤ 100) : (digB n).size ≤ 3 := by
  have h : ∀ k : Fin 101, (digL k).length ≤ 3 := by decide +kernel
  have e := h ⟨n.toNat, by omega⟩
  simpa [digB, ofL, ByteArray.size] using e
theorem aftB_size {p : PiP} (h : RightPi p) {t : TkP} (ht : TaskOk p.tasks.length t) : (aftB (p.tasks.map (·.name)) t.after).size ≤ 1000000 := by
  have h8 := h.few.2
  have hl := few_below _ _ ht.aft.1 ht.aft.2
  have := join_len 44 (t.after.map fun j => (p.tasks.map (·.name)).getD j .empty) 8 (fun x hx => by
    obtain ⟨j, hj, rfl⟩ := List.mem_map.1 hx
    have hjl := ht.aft.1 j hj
    rw [List.getD_eq_getElem?_getD, List.getElem?_map, List.getElem?_eq_getElem hjl]
    exact (h.task _ (List.getElem_mem hjl)).name.2.1)
  rw [List.length_map] at this
  have e : (aftB (p.tasks.map (·.name)) t.after).size = (joinC 44 (t.after.map fun j => (p.tasks.map (·.name)).getD j .empty)).length := by simp [aftB, ofL, ByteArray.size]
  rw [e]
  have : t.after.length * 9 ≤ 8 * 9 := Nat.mul_le_mul_right _ (by omega)
  omega
theorem line_small {p : PiP} (h : RightPi p) : ∀ l ∈ textW p, l.length ≤ 12 ∧ ∀ w ∈ l, w.size ≤ 1000000 := by
  intro l hl
  rw [textW, List.mem_cons] at hl
  rcases hl with rfl | hl
  · refine ⟨by simp, fun w hw => ?_⟩
    simp only [List.mem_cons, List.not_mem_nil, or_false] at hw
    rcases hw with rfl | rfl
    · decide
    · have := h.name.2.1; omega
  · obtain ⟨t, ht, rfl⟩ := List.mem_map.1 hl
    have hk := h.task t ht
    have ha := aftB_size h hk
    have hr := digB_size hk.retry.1 (by have := hk.retry.2; omega)
    have hn := digB_size hk.need.1 (by have := hk.need.2; omega)
    have ht' := digB_size (by have := hk.time.1; omega) hk.time.2
    have hx := hk.name.2.1
    have h6 : (strOfNums (textN t.lv t.st)).size = 6 := rfl
    have c1 : sGate.size ≤ 1000000 := by decide
    have c2 : sTask.size ≤ 1000000 := by decide
    have c3 : sAfter.size ≤ 1000000 := by decide
    have c4 : sRetry.size ≤ 1000000 := by decide
    have c5 : sTo.size ≤ 1000000 := by decide
    have c6 : sNeed.size ≤ 1000000 := by decide
    have c7 : sTime.size ≤ 1000000 := by decide
    unfold taskW aftW retW gateW
    refine ⟨?_, ?_⟩
    · split <;> split <;> split <;> simp
    · intro w hw
      simp only [List.mem_cons, List.mem_append, List.not_mem_nil, or_false] at hw
      rcases hw with rfl | rfl | hw | hw | hw | rfl | rfl
      · split <;> assumption
      · omega
      · split at hw
        · cases hw
        · simp only [List.mem_cons, List.not_mem_nil, or_false] at hw
          rcases hw with rfl | rfl <;> assumption
      · split at hw
        · simp only [List.mem_cons, List.not_mem_nil, or_false] at hw
          rcases hw with rfl | rfl
          · assumption
          · omega
        · cases hw
      · split at hw
        · simp only [List.mem_cons, List.not_mem_nil, or_false] at hw
          rcases hw with rfl | rfl | rfl | rfl
          · assumption
          · omega
          · assumption
          · omega
        · cases hw
      · assumption
      · omega
theorem lines_len : ∀ (L : List (List ByteArray)), (∀ l ∈ L, l.length ≤ 12 ∧ ∀ w ∈ l, w.size ≤ 1000000) → (L.flatMap lineB).length ≤ L.length * 20000000
  | [], _ => by simp
  | l :: L, h => by
    have h1 := h l (by simp)
    have h2 := join_len 32 l 1000000 h1.2
    have ih := lines_len L (fun x hx => h x (List.mem_cons_of_mem _ hx))
    have : l.length * (1000000 + 1) ≤ 12 * (1000000 + 1) := Nat.mul_le_mul_right _ h1.1
    rw [List.flatMap_cons, List.length_append, List.length_cons, Nat.add_mul, lineB, List.length_append, List.length_singleton]
    omega
theorem mtext_next {p : PiP} {k : Nat} {t : TkP} (ht : p.tasks[k]? = some t) : (textW p).take (k + 1 + 1) = (textW p).take (k + 1) ++ [taskW (p.tasks.map (·.name)) t] := by
  rw [List.take_add_one, textW, List.getElem?_cons_succ, List.getElem?_map, ht]
  rfl
def TxS (w : World) (A : Option Addr) (c : Nat) (p : PiP) (k : Nat) (W : World) : Prop :=
  W.heap[w.heap.size]? = some (.cells #[.string p.name, .slice A p.tasks.length c] 25 (0, 0)) ∧ Below w.heap.size w W ∧
    Lib.IsBuilderF 105 5 (w.heap.size + 1) (w.heap.size + 1) (Lib.byteCells (((textW p).take k).flatMap lineB)) W ∧ w.heap.size + 1 ≤ W.heap.size
theorem TxS.later {w W W' : World} {A : Option Addr} {c k : Nat} {p : PiP} (h : TxS w A c p k W) (hb : Below W.heap.size W W') : TxS w A c p k W' :=
  ⟨later_at hb h.1, below_step h.2.1 hb, bld_later h.2.2.1 hb, Nat.le_trans h.2.2.2 hb.size⟩
theorem TxS.next {w W W' : World} {A : Option Addr} {c k : Nat} {p : PiP} {l : List ByteArray} (h : TxS w A c p k W) (hl : (textW p).take (k + 1) = (textW p).take k ++ [l]) (hb : Below (w.heap.size + 1) W W') (hn : Lib.IsBuilderF 105 5 (w.heap.size + 1) (w.heap.size + 1) (Lib.byteCells (((textW p).take k).flatMap lineB) ++ Lib.byteCells (lineB l)) W') : TxS w A c p (k + 1) W' := by
  refine ⟨(hb.block _ (by omega)).trans h.1, h.2.1.trans (hb.mono (by omega)), ?_, Nat.le_trans h.2.2.2 hb.size⟩
  rw [hl, List.flatMap_append, List.flatMap_singleton, Lib.byteCells_append]
  exact hn
set_option maxHeartbeats 4000000 in
set_option maxRecDepth 100000 in
theorem text_is {w : World} {A : Option Addr} {c : Nat} {p : PiP} (hV : VarL w) (hA : TksAt w A p.tasks) (hp : RightPi p) :
    Calls Tryz.prog 25 #[.agg #[.string p.name, .slice A p.tasks.length c]] w fun e w' => e = .returned (.string (textP p)) ∧ Below w.heap.size w w' := by
  have hb0 := (Below.refl w.heap.size w).alloc (Nat.le_refl _) (.cells #[.string p.name, .slice A p.tasks.length c] 25)
  have hx0 := made_at w (.cells #[.string p.name, .slice A p.tasks.length c] 25)
  obtain ⟨W0, hW0⟩ : ∃ W0, W0 = w.alloc (.cells #[.string p.name, .slice A p.tasks.length c] 25) := ⟨_, rfl⟩
  have hs0 : W0.heap.size = w.heap.size + 1 := by rw [hW0, World.size_alloc]
  rw [← hW0] at hb0 hx0
  have hb1 := (Below.refl W0.heap.size W0).alloc (Nat.le_refl _) (.cells #[.pointer none, .slice none 0 0] 105)
  have hbd := Lib.fresh_isBuilder 105 5 W0
  have HT1 := Lib.hid (show TxS w A c p 0 (W0.alloc (.cells #[.pointer none, .slice none 0 0] 105)) from
    ⟨later_at hb1 hx0, below_step hb0 hb1, by rw [← hs0]; exact Lib.IsBuilderF.of hbd, by rw [World.size_alloc]; omega⟩)
  have HV := Lib.hid hV
  have HA := Lib.hid hA
  have HP := Lib.hid hp
  have HS0 := Lib.hid hs0
  have HW0 := Lib.hid hW0
  obtain ⟨r, hr⟩ : ∃ r, r = textP p := ⟨_, rfl⟩
  rw [← hr]
  have HR := Lib.hid hr
  have HLL := Lib.hid (fun k : Nat => show (Lib.byteCells (((textW p).take k).flatMap lineB)).length ≤ 1000000000 by
    have h1 := lines_len ((textW p).take k) (fun l hl => line_small hp l (List.mem_of_mem_take hl))
    have h2 : ((textW p).take k).length ≤ 9 := by
      rw [List.length_take, textW, List.length_cons, List.length_map]
      have := hp.few.2
      omega
    rw [Lib.byteCells_length]
    have : ((textW p).take k).length * 20000000 ≤ 9 * 20000000 := Nat.mul_le_mul_right _ h2
    omega)
  clear hb0 hx0 hb1 hbd hV hA hp hr
  go_enter Tryz.func25, Tryz.ntmps25
  go_upto_region 3 with fail
  have hW0 := HW0.out
  subst hW0
  generalize hW1 : ((w.alloc (.cells #[.string p.name, .slice A p.tasks.length c] 25)).alloc (.cells #[.pointer none, .slice none 0 0] 105)) = W1 at HT1 ⊢
  clear hW1 HW0 HS0
  have x0 := cellH HT1.out.1 0
  simp at x0
  have b2 := (Below.refl W1.heap.size W1).alloc (Nat.le_refl _) (.cells #[.string sPipe, .string p.name] 9)
  have HT2 := Lib.hid (HT1.out.later b2)
  have hcn := made_at W1 (.cells #[.string sPipe, .string p.name] 9)
  have HPT := Lib.hid (put_is (g := W1.heap.size) (n := 2) (c := 2) (xs := [sPipe, p.name]) HT2.out.2.2.1 HT2.out.2.2.2 (HLL.out 0) (fun j x hx => by
    have z := cellH hcn j
    rw [z, ← Array.getElem?_toList]
    show ([Value.string sPipe, .string p.name] : List Value)[j]? = _
    have e : ([Value.string sPipe, .string p.name] : List Value) = [sPipe, p.name].map Value.string := rfl
    rw [e, List.getElem?_map, hx]
    rfl) rfl (by simp) (Nat.le_refl _) (line_small HP.out _ (by rw [textW]; simp)).2 (by omega))
  clear b2 hcn
  go_wp2_with fail
  refine HPT.out.mono ?_
  rintro e w3 ⟨rfl, hbd3, hb3⟩
  have HT3 := Lib.hid (HT2.out.next (l := [sPipe, p.name]) rfl hb3 hbd3)
  clear hbd3 hb3 HPT HT2 HT1 x0
  have x1 := cellH HT3.out.1 1
  simp at x1
  go_wp2_with fail
  clear x1
  go_loopw [16] (fun i wr => ∃ k : Nat, i = .int .i64 k ∧ k ≤ p.tasks.length ∧ Hid (TxS w A c p (k + 1) wr)) (fun i _ => p.tasks.length - (intOf i).toNat)
  case atStart => exact ⟨0, rfl, Nat.zero_le _, HT3⟩
  case round =>
    obtain ⟨k, rfl, hk, HTW⟩ := hrel
    by_cases hlt : k < p.tasks.length
    · obtain ⟨t, ht⟩ : ∃ t, p.tasks[k]? = some t := ⟨_, List.getElem?_eq_getElem hlt⟩
      obtain ⟨pa, B1, c1, rfl, p0, pj, hN1, _⟩ := (HA.out.later HTW.out.2.1).at_ ht
      have p1 := pj 1 _ rfl
      have p2 := pj 2 _ rfl
      have p3 := pj 3 _ rfl
      have p4 := pj 4 _ rfl
      have p5 := pj 5 _ rfl
      have p6 := pj 6 _ rfl
      have hpb : (pa.add (k * 7)).block < wr.heap.size := World.block_lt_of_cell? wr _ p0
      have HLT := Lib.hid hlt
      have hk8 := HP.out.few.2
      have hk0 : (0 : Int) ≤ (k : Int) := by omega
      have hkl : (k : Int) < (p.tasks.length : Int) := by omega
      have hb1 := (Below.refl wr.heap.size wr).alloc (Nat.le_refl _) (.cells (tkA t B1 c1) 47)
      have HT := Lib.hid (made_at wr (.cells (tkA t B1 c1) 47))
      have HT4 := Lib.hid (HTW.out.later hb1)
      have htl := List.mem_of_getElem? ht
      have HNX := Lib.hid (mtext_next ht)
      have HLS := Lib.hid (line_small HP.out (taskW (p.tasks.map (·.name)) t) (by rw [textW]; exact List.mem_cons_of_mem _ (List.mem_map_of_mem htl)))
      have HWD := Lib.hid (wordsof_is (c := c1) (d := c) (HV.out.later HT4.out.2.1) (hN1.later hb1) (HA.out.later HT4.out.2.1) (HP.out.task t htl) rfl HP.out.few.2 (fun u hu => by have := (HP.out.task u hu).name.2.1; omega))
      obtain ⟨ws, hws⟩ : ∃ ws, ws = taskW (p.tasks.map (·.name)) t := ⟨_, rfl⟩
      have HWE := Lib.hid (show ws ≠ [] by rw [hws, taskW]; simp)
      rw [← hws] at HNX HLS HWD
      clear pj hN1 hb1 ht htl hws
      unfold tkA at HT HWD
      go_upto_region 7 with fail
      generalize hW3 : (wr.alloc (.cells #[.string t.name, .slice B1 t.after.length c1, .int .i64 t.retry, .int .i64 t.time, .int .i64 t.need, .int .i64 t.lv, .int .u16 t.st] 47)) = W3 at *
      clear hW3 p0 p1 p2 p3 p4 p5 p6
      have y0 := cellH HT.out 0
      have y1 := cellH HT.out 1
      have y2 := cellH HT.out 2
      have y3 := cellH HT.out 3
      have y4 := cellH HT.out 4
      have y5 := cellH HT.out 5
      have y6 := cellH HT.out 6
      have x1 := cellH HT4.out.1 1
      simp at y0 y1 y2 y3 y4 y5 y6 x1
      go_wp2_with fail
      refine HWD.out.mono ?_
      rintro e w4 ⟨hb4, g, dd, rfl, hcap, hcells⟩
      have HT5 := Lib.hid (HT4.out.later hb4)
      have HPT := Lib.hid (put_is (g := g) (c := dd) (xs := ws) HT5.out.2.2.1 HT5.out.2.2.2 (HLL.out (k + 1)) hcells rfl HWE.out hcap HLS.out.2 (by have := HLS.out.1; omega))
      clear hb4 hcap hcells HT4 HT HTW y0 y1 y2 y3 y4 y5 y6 x1
      go_wp2_with fail
      refine HPT.out.mono ?_
      rintro e w5 ⟨rfl, hbd5, hb5⟩
      have HT6 := Lib.hid (HT5.out.next HNX.out hb5 hbd5)
      clear hbd5 hb5 HPT HT5
      go_wp2_with fail
      go_roundw
      case rel => exact ⟨k + 1, by go_num, HLT.out, HT6⟩
      case measure => simp [intOf]; omega
    · have hke : k = p.tasks.length := by omega
      subst hke
      have HST := Lib.hid (bstr_is _ _ _ wr HTW.out.2.2.1 HTW.out.2.2.2)
      go_wp2_with fail
      refine HST.out.mono ?_
      rintro e w4 ⟨rfl, hb4⟩
      have HB4 := Lib.hid (HTW.out.2.1.trans (hb4.mono (by omega)))
      clear hb4
      go_wp2_with fail
      go_ret
      refine ⟨?_, HB4.out⟩
      rw [HR.out, textP, List.take_of_length_le (by rw [textW]; simp)]
      rfl
set_option maxHeartbeats 2000000 in
set_option maxRecDepth 100000 in
theorem mprint_is {w : World} {A : Option Addr} {c : Nat} {p : PiP} (hV : VarL w) (hA : TksAt w A p.tasks) (hp : RightPi p) :
    Calls Tryz.prog 13 #[pipV p.name A p.tasks.length c] w fun e w' => e = .returned (.tuple #[.string (if (textP p).size ≤ 600 then textP p else ⟨#[]⟩), .int .i64 (if (textP p).size ≤ 600 then 0 else 4)]) ∧ Below w.heap.size w w' := by
  have hb0 := (Below.refl w.heap.size w).alloc (Nat.le_refl _) (.cells #[.string p.name, .slice A p.tasks.length c] 25)
  have HB0 := Lib.hid hb0
  have HX := Lib.hid (made_at w (.cells #[.string p.name, .slice A p.tasks.length c] 25))
  have HRT := Lib.hid (fun (x : World) (hx : Below w.heap.size w x) => mright_is (c := c) (hA.later hx) hp)
  have HTX := Lib.hid (fun (x : World) (hx : Below w.heap.size w x) => text_is (c := c) (hV.later hx) (hA.later hx) hp)
  obtain ⟨s, hs⟩ : ∃ s, s = textP p := ⟨_, rfl⟩
  rw [← hs] at HTX ⊢
  have HS := Lib.hid hs
  have HLX := Lib.hid (fun x : World => lines_of x s _ rfl)
  have HP := Lib.hid hp
  clear hb0 hA hp hV hs
  go_enter Tryz.func13, Tryz.ntmps13
  go_upto_region 1 with fail
  generalize hW0 : (w.alloc (.cells #[.string p.name, .slice A p.tasks.length c] 25)) = W0 at *
  clear hW0
  have x0 := cellH HX.out 0
  have x1 := cellH HX.out 1
  simp at x0 x1
  go_wp2_with fail
  refine (HRT.out _ HB0.out).mono ?_
  rintro e w1 ⟨rfl, hb1⟩
  have HB1 := Lib.hid (below_step HB0.out hb1)
  have HX1 := Lib.hid (later_at hb1 HX.out)
  clear hb1 x0 x1
  have x0 := cellH HX1.out 0
  have x1 := cellH HX1.out 1
  simp at x0 x1
  go_wp2_with fail
  refine (HTX.out _ HB1.out).mono ?_
  rintro e w2 ⟨rfl, hb2⟩
  have HB2 := Lib.hid (below_step HB1.out hb2)
  clear hb2 x0 x1
  by_cases hz : s.size ≤ 600
  · have HZ := Lib.hid hz
    obtain ⟨L, hL, _⟩ := lex_lines (text_words HP.out) (by have := hz; rw [HS.out] at this; exact this)
    have hL : lexP s = .good L := by rw [HS.out]; exact hL
    rw [hL] at HLX
    clear hz hL
    go_wp2_with fail
    refine (HLX.out _).mono ?_
    rintro e w3 ⟨hb3, A3, c3, rfl, _⟩
    have HB3 := Lib.hid (below_step HB2.out hb3)
    clear hb3
    go_wp2_with fail
    refine (is_none _ 16).mono ?_
    rintro e w4 ⟨rfl, rfl⟩
    go_wp2_with fail
    refine bodyPost_ret (results_two rfl _ _ _) rfl ⟨?_, HB3.out⟩
    first
      | rfl
      | (rw [if_pos HZ.out, if_pos HZ.out]; rfl)
  · have HZ := Lib.hid hz
    have hL : lexP s = .bad 16 600 := if_pos (by omega)
    rw [hL] at HLX
    clear hz hL
    go_wp2_with fail
    refine (HLX.out _).mono ?_
    rintro e w3 ⟨hb3, A3, c3, F, rfl, hF⟩
    have HB3 := Lib.hid (below_step HB2.out hb3)
    have HI := Lib.hid (is_fault (e := 16) hF)
    clear hb3 hF
    unfold fltV
    go_wp2_with fail
    refine HI.out.mono ?_
    rintro e w4 ⟨rfl, rfl⟩
    go_wp2_with fail
    refine bodyPost_ret (results_two rfl _ _ _) rfl ⟨?_, HB3.out⟩
    first
      | rfl
      | (rw [if_neg HZ.out, if_neg HZ.out]; rfl)
set_option maxHeartbeats 1000000 in
set_option maxRecDepth 100000 in
theorem mright_no {w : World} : Calls Tryz.prog 15 #[.agg #[.string ⟨#[]⟩, .slice none 0 0]] w fun e w' => e = .returned (.bool false) ∧ Below w.heap.size w w' := by
  have HB0 := Lib.hid ((Below.refl w.heap.size w).alloc (Nat.le_refl _) (.cells #[.string ⟨#[]⟩, .slice none 0 0] 25))
  have z := made_at w (.cells #[.string ⟨#[]⟩, .slice none 0 0] 25)
  have x0 := cellH z 0
  simp at x0
  have HIN := Lib.hid (fun x : World => show Calls Tryz.prog 28 #[.string ⟨#[]⟩] x (fun e w' => e = .returned (.bool false) ∧ Below x.heap.size x w') by
    have h := isnameM_is ⟨#[]⟩ x
    rw [show nameP ⟨#[]⟩ = false from decide_eq_false (fun h => absurd h.1 (by decide))] at h
    exact h)
  clear z
  go_enter Tryz.func15, Tryz.ntmps15
  go_wp2_with fail
  refine (HIN.out _).mono ?_
  rintro e w1 ⟨rfl, hb1⟩
  have HB1 := Lib.hid (below_step HB0.out hb1)
  clear hb1 x0
  go_wp2_with fail
  go_ret
  exact ⟨rfl, HB1.out⟩
theorem mprint_no {w : World} : Calls Tryz.prog 13 #[.agg #[.string ⟨#[]⟩, .slice none 0 0]] w fun e w' => e = .returned (.tuple #[.string ⟨#[]⟩, .int .i64 1]) ∧ Below w.heap.size w w' := by
  have HB0 := Lib.hid ((Below.refl w.heap.size w).alloc (Nat.le_refl _) (.cells #[.string ⟨#[]⟩, .slice none 0 0] 25))
  have z := made_at w (.cells #[.string ⟨#[]⟩, .slice none 0 0] 25)
  have x0 := cellH z 0
  have x1 := cellH z 1
  simp at x0 x1
  clear z
  go_enter Tryz.func13, Tryz.ntmps13
  go_wp2_with fail
  refine mright_no.mono ?_
  rintro e w1 ⟨rfl, hb1⟩
  have HB1 := Lib.hid (below_step HB0.out hb1)
  clear hb1 x0 x1
  go_wp2_with fail
  exact bodyPost_ret (results_two rfl _ _ _) rfl ⟨rfl, HB1.out⟩
end Go.Proofs.YtcfnmjhelhdobaaGreatDoor
