/-
  wordsOf: a task's line, word by word. Conditions: the task may be; what the library's variables hold.
-/
import Derived.Test.YtcfnmjhelhdobaaGreatDoorMdQ
import Derived.Test.YtcfnmjhelhdobaaGreatDoorMdC
import Derived.Test.YtcfnmjhelhdobaaGreatDoorLexE
import Derived.Test.YtcfnmjhelhdobaaGreatDoorLabelG
import Derived.Test.YtcfnmjhelhdobaaGreatDoorPhaseC
namespace Go.Proofs.YtcfnmjhelhdobaaGreatDoor
open Go.RowKit

theorem one_readyH {P : Program} {md : Region.Mode} {ops : Array Oper} {Q : Exit → Act → World → Prop} {S : World → Prop} {fuel i : Nat} {listed : Array Bool} {a : Act} {w : World} (hr : Region.ready md ops listed = [i])
    (h : wpOp P ops Q i (fun a' w' => S w' ∧ wpAnyH P md ops Q S fuel (listed.setIfInBounds i true) a' w') a w) : wpAnyH P md ops Q S (fuel + 1) listed a w :=
  wpAnyH_ready hr (by simp) (fun j hj => by
    obtain rfl : j = i := by simpa using hj
    exact h)
theorem dig_head (n : Int) (h0 : 0 ≤ n) (h1 : n ≤ 100) : ofL (headT n) = digB n := by
  have h : ∀ k : Fin 101, headT ((k : Nat) : Int) = digL k := by decide +kernel
  have e := h ⟨n.toNat, by omega⟩
  simp only at e
  rw [show ((n.toNat : Nat) : Int) = n by omega] at e
  rw [digB, e]

/-- What lies in memory while a task's words are put together. -/
structure WdI (w : World) (t : TkP) (A : Option Addr) (c : Nat) (ws : List ByteArray) (v : Value) (W : World) : Prop where
  row : W.ownsRow (w.heap.size + 1) 9 1 v ws.length (ws.map Value.string)
  box : W.heap[w.heap.size]? = some (.cells (tkA t A c) 47 (0, 0))
  low : Below w.heap.size w W
section
variable {w W W' : World} {t : TkP} {A : Option Addr} {c : Nat} {ws : List ByteArray} {v v' : Value}
theorem WdI.later (h : WdI w t A c ws v W) (hb : Below W.heap.size W W') : WdI w t A c ws v W' :=
  ⟨own_agree h.row (fun q _ hq => hb.block q hq), later_at hb h.box, below_step h.low hb⟩
theorem WdI.grow (h : WdI w t A c ws v W) (hg : W.grownBy W' v.ownBlock) {us : List ByteArray} {m : Nat} (hm : us.length = m) (ho : W'.ownsRow (w.heap.size + 1) 9 1 v' (ws.length + m) (ws.map Value.string ++ us.map Value.string)) : WdI w t A c (ws ++ us) v' W' := by
  have hl := (Array.getElem?_eq_some_iff.1 h.box).1
  refine ⟨by rw [List.length_append, List.map_append, hm]; exact ho, (hg.block _ hl (fun e => ?_)).trans h.box, h.low.grown hg h.low.size (fun g e => by have := (own_tag h.row e).1; omega)⟩
  have := (own_tag h.row e.symm).1
  omega
theorem WdI.slc (h : WdI w t A c ws v W) : ∃ B d, v = .slice B ws.length d ∧ (ws ≠ [] → ∃ g, B = some ⟨g, 0, none⟩ ∧ ws.length ≤ d ∧ ∀ (j : Nat) (x : ByteArray), ws[j]? = some x → W.cell? ⟨g, j, none⟩ = some (.string x)) := by
  rcases h.row.2 with ⟨h1, h0⟩ | ⟨g, cap, cur, h1, _, hq, hcp, _, _, ht⟩
  · exact ⟨none, 0, by rw [h1, h0], fun hn => absurd (List.eq_nil_of_length_eq_zero h0) hn⟩
  · refine ⟨_, _, h1, fun _ => ⟨g, rfl, hcp, fun j x hx => ?_⟩⟩
    rw [cellH hq]
    have h3 : (ws.map Value.string)[j]? = some (.string x) := by rw [List.getElem?_map, hx]; rfl
    rw [← ht, List.getElem?_take] at h3
    split at h3
    · simpa using h3
    · exact absurd h3 (by simp)
end
def WdO (w : World) (ws : List ByteArray) (e : Ending) (w' : World) : Prop := Below w.heap.size w w' ∧ ∃ g d, e = .returned (.slice (some ⟨g, 0, none⟩) ws.length d) ∧ ws.length ≤ d ∧ ∀ (j : Nat) (x : ByteArray), ws[j]? = some x → w'.cell? ⟨g, j, none⟩ = some (.string x)
theorem WdI.out {w W : World} {t : TkP} {A : Option Addr} {c : Nat} {ws : List ByteArray} {B : Option Addr} {d : Nat} (h : WdI w t A c ws (.slice B ws.length d) W) {vs : List ByteArray} (hn : ws ≠ []) (h0 : ws = vs) : WdO w vs (.returned (.slice B ws.length d)) W := by
  subst h0
  obtain ⟨B', d', e, hh⟩ := h.slc
  obtain ⟨g, hg, hc, hx⟩ := hh hn
  injection e with e1 _ e2
  subst e1 e2 hg
  exact ⟨h.low, g, d, rfl, hc, hx⟩

set_option maxHeartbeats 8000000 in
set_option maxRecDepth 100000 in
theorem wordsof_is {w : World} {t : TkP} {A T : Option Addr} {c d n : Nat} {ts : List TkP} (hV : VarL w) (hA : NatsAt w A t.after) (hT : TksAt w T ts) (ht : TaskOk n t) (hn : n = ts.length) (hn8 : n ≤ 8) (hs : ∀ t ∈ ts, t.name.size ≤ 1000000) :
    Calls Tryz.prog 49 #[.agg (tkA t A c), .slice T ts.length d] w (WdO w (taskW (ts.map (·.name)) t)) := by
  have hl : t.after.length ≤ 1000 := by have := few_below _ _ ht.aft.1 ht.aft.2; omega
  have hb0 := (Below.refl w.heap.size w).alloc (Nat.le_refl _) (.cells (tkA t A c) 47)
  have HB0 := Lib.hid hb0
  have HX := Lib.hid (made_at w (.cells (tkA t A c) 47))
  obtain ⟨nm, hnm⟩ : ∃ nm, nm = aftB (ts.map (·.name)) t.after := ⟨_, rfl⟩
  have HNM := Lib.hid hnm
  have HNA := Lib.hid (fun (hne : t.after ≠ []) {x : World} (hx : Below w.heap.size w x) => show Calls Tryz.prog 72 #[.slice A t.after.length c, .slice T ts.length d] x (fun e w' => e = .returned (.string nm) ∧ Below x.heap.size x w') by
    rw [hnm]
    exact namesat_is (c := c) (d := d) (hA.later hx) (hT.later hx) (fun j hj => by have := ht.aft.1 j hj; omega) hne hl hs)
  have HIT := Lib.hid (fun (k : Int) (h0 : 0 ≤ k) (h1 : k ≤ 100) {x : World} (hx : Below w.heap.size w x) => show Calls Tryz.prog 73 #[.int .i64 k] x (fun e w' => e = .returned (.string (digB k)) ∧ Below x.heap.size x w') by
    have h := itoa_is (hV.later hx).v k (by omega) (by omega)
    rw [dig_head k h0 h1] at h
    exact h)
  have HTX := Lib.hid (fun (x : World) => text_yes t.lv t.st ht.lab.1 ht.lab.2.1 ht.lab.2.2.1 (by have := ht.lab.2.2.2; omega) x)
  obtain ⟨lt, hlt⟩ : ∃ lt, lt = strOfNums (textN t.lv t.st) := ⟨_, rfl⟩
  rw [← hlt] at HTX
  have HLT := Lib.hid hlt
  have HOK := Lib.hid ht
  obtain ⟨ra, hra⟩ : ∃ ra, ra = taskW (ts.map (·.name)) t := ⟨_, rfl⟩
  rw [← hra]
  have HRA := Lib.hid hra
  obtain ⟨i0, hi0, hz0, hz1, hz2⟩ := info_all info_str3
  clear hb0 hA hT hn hn8 hs hl ht hV hnm hlt hra
  go_enter Tryz.func49, Tryz.ntmps49
  go_upto_region 1 with fail
  generalize hW0 : (w.alloc (.cells (tkA t A c) 47)) = W0 at *
  have hs0 : W0.heap.size = w.heap.size + 1 := by rw [← hW0, World.size_alloc]
  clear hW0
  have x0 := cellH HX.out 0
  simp at x0
  have b1 := (Below.refl W0.heap.size W0).alloc (Nat.le_refl _) (.cells #[.string sTask, .string t.name] 9)
  have HI1 := Lib.hid (show WdI w t A c [sTask, t.name] (.slice (some ⟨W0.heap.size, 0, none⟩) 2 2) (W0.alloc (.cells #[.string sTask, .string t.name] 9)) from ⟨World.ownsRow_lit W0 #[.string sTask, .string t.name] 2 (by omega) (by unfold maxLen; omega) rfl, later_at b1 HX.out, below_step HB0.out b1⟩)
  rw [hs0] at HI1
  go_upto_region 2 with fail
  generalize hW1 : (W0.alloc (.cells #[.string sTask, .string t.name] 9)) = W1 at *
  clear hW1 x0 b1 HB0 HX hs0
  have x0 := cellH HI1.out.box 0
  have x1 := cellH HI1.out.box 1
  have x2 := cellH HI1.out.box 2
  have x3 := cellH HI1.out.box 3
  have x4 := cellH HI1.out.box 4
  have x5 := cellH HI1.out.box 5
  have x6 := cellH HI1.out.box 6
  simp at x0 x1 x2 x3 x4 x5 x6
  go_wp2_with fail
  refine (isgate_is _ _ _ _ _ _ _ _).mono ?_
  rintro e w2 ⟨rfl, hb2⟩
  have HI2 := Lib.hid (HI1.out.later hb2)
  clear hb2 HI1 x0 x1 x2 x3 x4 x5 x6
  by_cases hg : t.need = 0
  · have hg' : (t.need != 0) = false := by rw [bne_eq_false_iff_eq]; exact hg
    have HG := Lib.hid hg
    clear hg
    go_upto_region 4 with fail
    have HI := HI2
    clear HI2
    by_cases haf : t.after = []
    · by_cases hrt : t.retry = 0
      · skip
        have x1 := cellH HI.out.box 1
        simp at x1
        have hl0 : ¬ (0 : Int) < (t.after.length : Int) := by rw [haf]; simp
        go_upto_region 6 with fail
        have HI5 := HI
        clear x1 hl0 HI
        obtain ⟨B9, d9, e9, _⟩ := HI5.out.slc
        injection e9 with e9 _ e10
        subst e9 e10
        have x2 := cellH HI5.out.box 2
        simp at x2
        have hr0 : (t.retry != 0) = false := by rw [bne_eq_false_iff_eq]; exact hrt
        go_upto_region 8 with fail
        clear x2 hr0
        have x0 := cellH HI5.out.box 0
        have x1 := cellH HI5.out.box 1
        have x2 := cellH HI5.out.box 2
        have x3 := cellH HI5.out.box 3
        have x4 := cellH HI5.out.box 4
        have x5 := cellH HI5.out.box 5
        have x6 := cellH HI5.out.box 6
        simp at x0 x1 x2 x3 x4 x5 x6
        go_wp2_with fail
        refine (isgate_is _ _ _ _ _ _ _ _).mono ?_
        rintro e w6 ⟨rfl, hb6⟩
        have HI6 := Lib.hid (HI5.out.later hb6)
        clear hb6 HI5 x0 x1 x2 x3 x4 x5 x6
        have HI := HI6
        clear HI6
        have x3 := cellH HI.out.box 3
        simp at x3
        go_wp2_with fail
        refine (HIT.out t.time (by have := HOK.out.time.1; omega) HOK.out.time.2 HI.out.low).mono ?_
        rintro e w3 ⟨rfl, hb3⟩
        have HI3 := Lib.hid (HI.out.later hb3)
        clear hb3 HI
        have b4 := (Below.refl w3.heap.size w3).alloc (Nat.le_refl _) (.cells #[.string sTime, .string (digB t.time)] 9)
        have HI4 := Lib.hid (HI3.out.later b4)
        have HNW := Lib.hid (cells_new w3 [.string sTime, .string (digB t.time)] 9)
        have hbase : w.heap.size + 1 ≤ (w3.alloc (.cells #[.string sTime, .string (digB t.time)] 9)).heap.size := by have := (Array.getElem?_eq_some_iff.1 HI4.out.box).1; omega
        clear b4 HI3
        go_wp2_with (at_builtin; refine wpList_append_own _ rfl (.tmp 44) (.tmp 48) 59 rfl (w.heap.size + 1) 9 i0 _ 1 16 Tryz.underlying59 hi0 hz0 hz1 hz2 rfl (by omega) _ _ _ rfl HI4.out.row ⟨w3.heap.size, 0, none⟩ 2 2 [.string sTime, .string (digB t.time)] rfl rfl HNW.out (by simp [Value.oneCell']) (by unfold maxLen; simp) (by simp) hbase ?_; intro v4 w4 hown4 hg4 _; have HI5 := Lib.hid (show WdI w t A c [sTask, t.name, sTime, (digB t.time)] v4 w4 from HI4.out.grow (us := [sTime, (digB t.time)]) hg4 rfl hown4); clear hown4 hg4)
        clear HI4 HNW hbase
        obtain ⟨B11, d11, e11, _⟩ := HI5.out.slc
        subst e11
        go_ret
        refine HI5.out.out (by simp) ?_
        have hgt : ¬ 0 < t.need := by have := HOK.out.need.1; have := HG.out; omega
        have hrr : ¬ 0 < t.retry := by have := HOK.out.retry.1; omega
        rw [HRA.out, taskW, aftW, retW, gateW]
        simp [hgt, hrr, haf]
      · skip
        have x1 := cellH HI.out.box 1
        simp at x1
        have hl0 : ¬ (0 : Int) < (t.after.length : Int) := by rw [haf]; simp
        go_upto_region 6 with fail
        have HI5 := HI
        clear x1 hl0 HI
        obtain ⟨B9, d9, e9, _⟩ := HI5.out.slc
        injection e9 with e9 _ e10
        subst e9 e10
        have x2 := cellH HI5.out.box 2
        simp at x2
        have hr0 : (t.retry != 0) = true := by rw [bne_iff_ne]; exact hrt
        have HI := HI5
        clear HI5
        go_wp2_with fail
        refine (HIT.out t.retry HOK.out.retry.1 (by have := HOK.out.retry.2; omega) HI.out.low).mono ?_
        rintro e w3 ⟨rfl, hb3⟩
        have HI3 := Lib.hid (HI.out.later hb3)
        clear hb3 HI
        have b4 := (Below.refl w3.heap.size w3).alloc (Nat.le_refl _) (.cells #[.string sRetry, .string (digB t.retry)] 9)
        have HI4 := Lib.hid (HI3.out.later b4)
        have HNW := Lib.hid (cells_new w3 [.string sRetry, .string (digB t.retry)] 9)
        have hbase : w.heap.size + 1 ≤ (w3.alloc (.cells #[.string sRetry, .string (digB t.retry)] 9)).heap.size := by have := (Array.getElem?_eq_some_iff.1 HI4.out.box).1; omega
        clear b4 HI3
        go_upto_region 8 with (at_builtin; refine wpList_append_own _ rfl (.tmp 27) (.tmp 31) 59 rfl (w.heap.size + 1) 9 i0 _ 1 16 Tryz.underlying59 hi0 hz0 hz1 hz2 rfl (by omega) _ _ _ rfl HI4.out.row ⟨w3.heap.size, 0, none⟩ 2 2 [.string sRetry, .string (digB t.retry)] rfl rfl HNW.out (by simp [Value.oneCell']) (by unfold maxLen; simp) (by simp) hbase ?_; intro v4 w4 hown4 hg4 _; have HI5 := Lib.hid (show WdI w t A c [sTask, t.name, sRetry, (digB t.retry)] v4 w4 from HI4.out.grow (us := [sRetry, (digB t.retry)]) hg4 rfl hown4); clear hown4 hg4)
        clear HI4 HNW hbase
        obtain ⟨B10, d10, e10, _⟩ := HI5.out.slc
        subst e10
        clear x2 hr0
        have x0 := cellH HI5.out.box 0
        have x1 := cellH HI5.out.box 1
        have x2 := cellH HI5.out.box 2
        have x3 := cellH HI5.out.box 3
        have x4 := cellH HI5.out.box 4
        have x5 := cellH HI5.out.box 5
        have x6 := cellH HI5.out.box 6
        simp at x0 x1 x2 x3 x4 x5 x6
        go_wp2_with fail
        refine (isgate_is _ _ _ _ _ _ _ _).mono ?_
        rintro e w6 ⟨rfl, hb6⟩
        have HI6 := Lib.hid (HI5.out.later hb6)
        clear hb6 HI5 x0 x1 x2 x3 x4 x5 x6
        have HI := HI6
        clear HI6
        have x3 := cellH HI.out.box 3
        simp at x3
        go_wp2_with fail
        refine (HIT.out t.time (by have := HOK.out.time.1; omega) HOK.out.time.2 HI.out.low).mono ?_
        rintro e w3 ⟨rfl, hb3⟩
        have HI3 := Lib.hid (HI.out.later hb3)
        clear hb3 HI
        have b4 := (Below.refl w3.heap.size w3).alloc (Nat.le_refl _) (.cells #[.string sTime, .string (digB t.time)] 9)
        have HI4 := Lib.hid (HI3.out.later b4)
        have HNW := Lib.hid (cells_new w3 [.string sTime, .string (digB t.time)] 9)
        have hbase : w.heap.size + 1 ≤ (w3.alloc (.cells #[.string sTime, .string (digB t.time)] 9)).heap.size := by have := (Array.getElem?_eq_some_iff.1 HI4.out.box).1; omega
        clear b4 HI3
        go_wp2_with (at_builtin; refine wpList_append_own _ rfl (.tmp 44) (.tmp 48) 59 rfl (w.heap.size + 1) 9 i0 _ 1 16 Tryz.underlying59 hi0 hz0 hz1 hz2 rfl (by omega) _ _ _ rfl HI4.out.row ⟨w3.heap.size, 0, none⟩ 2 2 [.string sTime, .string (digB t.time)] rfl rfl HNW.out (by simp [Value.oneCell']) (by unfold maxLen; simp) (by simp) hbase ?_; intro v4 w4 hown4 hg4 _; have HI5 := Lib.hid (show WdI w t A c [sTask, t.name, sRetry, (digB t.retry), sTime, (digB t.time)] v4 w4 from HI4.out.grow (us := [sTime, (digB t.time)]) hg4 rfl hown4); clear hown4 hg4)
        clear HI4 HNW hbase
        obtain ⟨B11, d11, e11, _⟩ := HI5.out.slc
        subst e11
        go_ret
        refine HI5.out.out (by simp) ?_
        have hgt : ¬ 0 < t.need := by have := HOK.out.need.1; have := HG.out; omega
        have hrr : 0 < t.retry := by have := HOK.out.retry.1; omega
        rw [HRA.out, taskW, aftW, retW, gateW]
        simp [hgt, hrr, haf]
    · by_cases hrt : t.retry = 0
      · skip
        have x1 := cellH HI.out.box 1
        simp at x1
        have hl0 : (0 : Int) < (t.after.length : Int) := by have := List.length_pos_iff.2 haf; omega
        go_wp2_with fail
        refine (HNA.out haf HI.out.low).mono ?_
        rintro e w3 ⟨rfl, hb3⟩
        have HI3 := Lib.hid (HI.out.later hb3)
        clear hb3 HI
        have b4 := (Below.refl w3.heap.size w3).alloc (Nat.le_refl _) (.cells #[.string sAfter, .string nm] 9)
        have HI4 := Lib.hid (HI3.out.later b4)
        have HNW := Lib.hid (cells_new w3 [.string sAfter, .string nm] 9)
        have hbase : w.heap.size + 1 ≤ (w3.alloc (.cells #[.string sAfter, .string nm] 9)).heap.size := by have := (Array.getElem?_eq_some_iff.1 HI4.out.box).1; omega
        clear b4 HI3
        go_upto_region 6 with (at_builtin; refine wpList_append_own _ rfl (.tmp 17) (.tmp 22) 59 rfl (w.heap.size + 1) 9 i0 _ 1 16 Tryz.underlying59 hi0 hz0 hz1 hz2 rfl (by omega) _ _ _ rfl HI4.out.row ⟨w3.heap.size, 0, none⟩ 2 2 [.string sAfter, .string nm] rfl rfl HNW.out (by simp [Value.oneCell']) (by unfold maxLen; simp) (by simp) hbase ?_; intro v4 w4 hown4 hg4 _; have HI5 := Lib.hid (show WdI w t A c [sTask, t.name, sAfter, nm] v4 w4 from HI4.out.grow (us := [sAfter, nm]) hg4 rfl hown4); clear hown4 hg4)
        clear HI4 HNW hbase
        clear x1 hl0
        obtain ⟨B9, d9, e9, _⟩ := HI5.out.slc
        subst e9
        have x2 := cellH HI5.out.box 2
        simp at x2
        have hr0 : (t.retry != 0) = false := by rw [bne_eq_false_iff_eq]; exact hrt
        go_upto_region 8 with fail
        clear x2 hr0
        have x0 := cellH HI5.out.box 0
        have x1 := cellH HI5.out.box 1
        have x2 := cellH HI5.out.box 2
        have x3 := cellH HI5.out.box 3
        have x4 := cellH HI5.out.box 4
        have x5 := cellH HI5.out.box 5
        have x6 := cellH HI5.out.box 6
        simp at x0 x1 x2 x3 x4 x5 x6
        go_wp2_with fail
        refine (isgate_is _ _ _ _ _ _ _ _).mono ?_
        rintro e w6 ⟨rfl, hb6⟩
        have HI6 := Lib.hid (HI5.out.later hb6)
        clear hb6 HI5 x0 x1 x2 x3 x4 x5 x6
        have HI := HI6
        clear HI6
        have x3 := cellH HI.out.box 3
        simp at x3
        go_wp2_with fail
        refine (HIT.out t.time (by have := HOK.out.time.1; omega) HOK.out.time.2 HI.out.low).mono ?_
        rintro e w3 ⟨rfl, hb3⟩
        have HI3 := Lib.hid (HI.out.later hb3)
        clear hb3 HI
        have b4 := (Below.refl w3.heap.size w3).alloc (Nat.le_refl _) (.cells #[.string sTime, .string (digB t.time)] 9)
        have HI4 := Lib.hid (HI3.out.later b4)
        have HNW := Lib.hid (cells_new w3 [.string sTime, .string (digB t.time)] 9)
        have hbase : w.heap.size + 1 ≤ (w3.alloc (.cells #[.string sTime, .string (digB t.time)] 9)).heap.size := by have := (Array.getElem?_eq_some_iff.1 HI4.out.box).1; omega
        clear b4 HI3
        go_wp2_with (at_builtin; refine wpList_append_own _ rfl (.tmp 44) (.tmp 48) 59 rfl (w.heap.size + 1) 9 i0 _ 1 16 Tryz.underlying59 hi0 hz0 hz1 hz2 rfl (by omega) _ _ _ rfl HI4.out.row ⟨w3.heap.size, 0, none⟩ 2 2 [.string sTime, .string (digB t.time)] rfl rfl HNW.out (by simp [Value.oneCell']) (by unfold maxLen; simp) (by simp) hbase ?_; intro v4 w4 hown4 hg4 _; have HI5 := Lib.hid (show WdI w t A c [sTask, t.name, sAfter, nm, sTime, (digB t.time)] v4 w4 from HI4.out.grow (us := [sTime, (digB t.time)]) hg4 rfl hown4); clear hown4 hg4)
        clear HI4 HNW hbase
        obtain ⟨B11, d11, e11, _⟩ := HI5.out.slc
        subst e11
        go_ret
        refine HI5.out.out (by simp) ?_
        have hgt : ¬ 0 < t.need := by have := HOK.out.need.1; have := HG.out; omega
        have hrr : ¬ 0 < t.retry := by have := HOK.out.retry.1; omega
        rw [HRA.out, taskW, aftW, retW, gateW]
        simp [hgt, hrr, haf, HNM.out]
      · skip
        have x1 := cellH HI.out.box 1
        simp at x1
        have hl0 : (0 : Int) < (t.after.length : Int) := by have := List.length_pos_iff.2 haf; omega
        go_wp2_with fail
        refine (HNA.out haf HI.out.low).mono ?_
        rintro e w3 ⟨rfl, hb3⟩
        have HI3 := Lib.hid (HI.out.later hb3)
        clear hb3 HI
        have b4 := (Below.refl w3.heap.size w3).alloc (Nat.le_refl _) (.cells #[.string sAfter, .string nm] 9)
        have HI4 := Lib.hid (HI3.out.later b4)
        have HNW := Lib.hid (cells_new w3 [.string sAfter, .string nm] 9)
        have hbase : w.heap.size + 1 ≤ (w3.alloc (.cells #[.string sAfter, .string nm] 9)).heap.size := by have := (Array.getElem?_eq_some_iff.1 HI4.out.box).1; omega
        clear b4 HI3
        go_upto_region 6 with (at_builtin; refine wpList_append_own _ rfl (.tmp 17) (.tmp 22) 59 rfl (w.heap.size + 1) 9 i0 _ 1 16 Tryz.underlying59 hi0 hz0 hz1 hz2 rfl (by omega) _ _ _ rfl HI4.out.row ⟨w3.heap.size, 0, none⟩ 2 2 [.string sAfter, .string nm] rfl rfl HNW.out (by simp [Value.oneCell']) (by unfold maxLen; simp) (by simp) hbase ?_; intro v4 w4 hown4 hg4 _; have HI5 := Lib.hid (show WdI w t A c [sTask, t.name, sAfter, nm] v4 w4 from HI4.out.grow (us := [sAfter, nm]) hg4 rfl hown4); clear hown4 hg4)
        clear HI4 HNW hbase
        clear x1 hl0
        obtain ⟨B9, d9, e9, _⟩ := HI5.out.slc
        subst e9
        have x2 := cellH HI5.out.box 2
        simp at x2
        have hr0 : (t.retry != 0) = true := by rw [bne_iff_ne]; exact hrt
        have HI := HI5
        clear HI5
        go_wp2_with fail
        refine (HIT.out t.retry HOK.out.retry.1 (by have := HOK.out.retry.2; omega) HI.out.low).mono ?_
        rintro e w3 ⟨rfl, hb3⟩
        have HI3 := Lib.hid (HI.out.later hb3)
        clear hb3 HI
        have b4 := (Below.refl w3.heap.size w3).alloc (Nat.le_refl _) (.cells #[.string sRetry, .string (digB t.retry)] 9)
        have HI4 := Lib.hid (HI3.out.later b4)
        have HNW := Lib.hid (cells_new w3 [.string sRetry, .string (digB t.retry)] 9)
        have hbase : w.heap.size + 1 ≤ (w3.alloc (.cells #[.string sRetry, .string (digB t.retry)] 9)).heap.size := by have := (Array.getElem?_eq_some_iff.1 HI4.out.box).1; omega
        clear b4 HI3
        go_upto_region 8 with (at_builtin; refine wpList_append_own _ rfl (.tmp 27) (.tmp 31) 59 rfl (w.heap.size + 1) 9 i0 _ 1 16 Tryz.underlying59 hi0 hz0 hz1 hz2 rfl (by omega) _ _ _ rfl HI4.out.row ⟨w3.heap.size, 0, none⟩ 2 2 [.string sRetry, .string (digB t.retry)] rfl rfl HNW.out (by simp [Value.oneCell']) (by unfold maxLen; simp) (by simp) hbase ?_; intro v4 w4 hown4 hg4 _; have HI5 := Lib.hid (show WdI w t A c [sTask, t.name, sAfter, nm, sRetry, (digB t.retry)] v4 w4 from HI4.out.grow (us := [sRetry, (digB t.retry)]) hg4 rfl hown4); clear hown4 hg4)
        clear HI4 HNW hbase
        obtain ⟨B10, d10, e10, _⟩ := HI5.out.slc
        subst e10
        clear x2 hr0
        have x0 := cellH HI5.out.box 0
        have x1 := cellH HI5.out.box 1
        have x2 := cellH HI5.out.box 2
        have x3 := cellH HI5.out.box 3
        have x4 := cellH HI5.out.box 4
        have x5 := cellH HI5.out.box 5
        have x6 := cellH HI5.out.box 6
        simp at x0 x1 x2 x3 x4 x5 x6
        go_wp2_with fail
        refine (isgate_is _ _ _ _ _ _ _ _).mono ?_
        rintro e w6 ⟨rfl, hb6⟩
        have HI6 := Lib.hid (HI5.out.later hb6)
        clear hb6 HI5 x0 x1 x2 x3 x4 x5 x6
        have HI := HI6
        clear HI6
        have x3 := cellH HI.out.box 3
        simp at x3
        go_wp2_with fail
        refine (HIT.out t.time (by have := HOK.out.time.1; omega) HOK.out.time.2 HI.out.low).mono ?_
        rintro e w3 ⟨rfl, hb3⟩
        have HI3 := Lib.hid (HI.out.later hb3)
        clear hb3 HI
        have b4 := (Below.refl w3.heap.size w3).alloc (Nat.le_refl _) (.cells #[.string sTime, .string (digB t.time)] 9)
        have HI4 := Lib.hid (HI3.out.later b4)
        have HNW := Lib.hid (cells_new w3 [.string sTime, .string (digB t.time)] 9)
        have hbase : w.heap.size + 1 ≤ (w3.alloc (.cells #[.string sTime, .string (digB t.time)] 9)).heap.size := by have := (Array.getElem?_eq_some_iff.1 HI4.out.box).1; omega
        clear b4 HI3
        go_wp2_with (at_builtin; refine wpList_append_own _ rfl (.tmp 44) (.tmp 48) 59 rfl (w.heap.size + 1) 9 i0 _ 1 16 Tryz.underlying59 hi0 hz0 hz1 hz2 rfl (by omega) _ _ _ rfl HI4.out.row ⟨w3.heap.size, 0, none⟩ 2 2 [.string sTime, .string (digB t.time)] rfl rfl HNW.out (by simp [Value.oneCell']) (by unfold maxLen; simp) (by simp) hbase ?_; intro v4 w4 hown4 hg4 _; have HI5 := Lib.hid (show WdI w t A c [sTask, t.name, sAfter, nm, sRetry, (digB t.retry), sTime, (digB t.time)] v4 w4 from HI4.out.grow (us := [sTime, (digB t.time)]) hg4 rfl hown4); clear hown4 hg4)
        clear HI4 HNW hbase
        obtain ⟨B11, d11, e11, _⟩ := HI5.out.slc
        subst e11
        go_ret
        refine HI5.out.out (by simp) ?_
        have hgt : ¬ 0 < t.need := by have := HOK.out.need.1; have := HG.out; omega
        have hrr : 0 < t.retry := by have := HOK.out.retry.1; omega
        rw [HRA.out, taskW, aftW, retW, gateW]
        simp [hgt, hrr, haf, HNM.out]
  · have hg' : (t.need != 0) = true := by rw [bne_iff_ne]; exact hg
    have HG := Lib.hid hg
    have hrt : t.retry = 0 := HOK.out.gate (by have := HOK.out.need.1; omega)
    clear hg
    have f0 := HI2.out.row.frozenAt 0
    have c0 := HI2.out.row.cellAt 0 (by simp)
    have hst := HI2.out.row.stored 0 (.string sGate)
    have HI := Lib.hid (show WdI w t A c [sGate, t.name] (.slice (some ⟨w.heap.size + 1, 0, none⟩) 2 2) (w2.setCell ⟨w.heap.size + 1, 0, none⟩ (.string sGate)) from by
      have hne : w.heap.size ≠ w.heap.size + 1 := by omega
      exact ⟨hst.1, (Below.heap_setCell w2 ⟨w.heap.size + 1, 0, none⟩ (.string sGate) w.heap.size (by simp)).trans HI2.out.box, HI2.out.low.grown hst.2 HI2.out.low.size (fun g e => by have := (own_tag HI2.out.row e).1; omega)⟩)
    clear hst
    simp at c0
    go_upto_region 4 with fail
    generalize (w2.setCell ⟨w.heap.size + 1, 0, none⟩ (.string sGate)) = W2 at *
    clear HI2 f0 c0
    by_cases haf : t.after = []
    · skip
      have x1 := cellH HI.out.box 1
      simp at x1
      have hl0 : ¬ (0 : Int) < (t.after.length : Int) := by rw [haf]; simp
      go_upto_region 6 with fail
      have HI5 := HI
      clear x1 hl0 HI
      obtain ⟨B9, d9, e9, _⟩ := HI5.out.slc
      injection e9 with e9 _ e10
      subst e9 e10
      have x2 := cellH HI5.out.box 2
      simp at x2
      have hr0 : (t.retry != 0) = false := by rw [bne_eq_false_iff_eq]; exact hrt
      go_upto_region 8 with fail
      clear x2 hr0
      have x0 := cellH HI5.out.box 0
      have x1 := cellH HI5.out.box 1
      have x2 := cellH HI5.out.box 2
      have x3 := cellH HI5.out.box 3
      have x4 := cellH HI5.out.box 4
      have x5 := cellH HI5.out.box 5
      have x6 := cellH HI5.out.box 6
      simp at x0 x1 x2 x3 x4 x5 x6
      go_wp2_with fail
      refine (isgate_is _ _ _ _ _ _ _ _).mono ?_
      rintro e w6 ⟨rfl, hb6⟩
      have HI6 := Lib.hid (HI5.out.later hb6)
      clear hb6 HI5 x0 x1 x2 x3 x4 x5 x6
      have x4 := cellH HI6.out.box 4
      have x5 := cellH HI6.out.box 5
      have x6 := cellH HI6.out.box 6
      simp at x4 x5 x6
      obtain ⟨B12, d12, e12, _⟩ := HI6.out.slc
      injection e12 with e12 _ e13
      subst e12 e13
      go_upto_region 9 with fail
      clear x4 x5 x6
      refine wp_region_noPanic ?_
      refine wp_region_held_drew (S := fun W' => W'.heap[w.heap.size]? = some (.cells (tkA t A c) 47 (0, 0))) (by kernel_rfl) (by exact HI6.out.box) (fun hHeld => ?_)
      refine take_yes 0 35 (v := ?_) rfl rfl (by kernel_rfl) (by kernel_rfl) (by kernel_rfl) noPanic_any (by rfl) hHeld ?_ ?_
      rotate_left
      · intro wx hSw; (try dsimp only at hSw); have y4 := cellH hSw 4; have y5 := cellH hSw 5; have y6 := cellH hSw 6; simp at y4 y5 y6; go_simp <;> with_reducible rfl
      simp only [Act.put, List.setIfInBounds_toArray, List.set_cons_zero, List.set_cons_succ]
      refine take_yes 1 36 (v := ?_) rfl rfl (by kernel_rfl) (by kernel_rfl) (by kernel_rfl) noPanic_any (by rfl) hHeld ?_ ?_
      rotate_left
      · intro wx hSw; (try dsimp only at hSw); have y4 := cellH hSw 4; have y5 := cellH hSw 5; have y6 := cellH hSw 6; simp at y4 y5 y6; go_simp <;> with_reducible rfl
      simp only [Act.put, List.setIfInBounds_toArray, List.set_cons_zero, List.set_cons_succ]
      refine take_yes 2 37 (v := ?_) rfl rfl (by kernel_rfl) (by kernel_rfl) (by kernel_rfl) noPanic_any (by rfl) hHeld ?_ ?_
      rotate_left
      · intro wx hSw; (try dsimp only at hSw); have y4 := cellH hSw 4; have y5 := cellH hSw 5; have y6 := cellH hSw 6; simp at y4 y5 y6; go_simp <;> with_reducible rfl
      simp only [Act.put, List.setIfInBounds_toArray, List.set_cons_zero, List.set_cons_succ]
      refine take_yes 4 39 (v := ?_) rfl rfl (by kernel_rfl) (by kernel_rfl) (by kernel_rfl) noPanic_any (by rfl) hHeld ?_ ?_
      rotate_left
      · intro wx hSw; (try dsimp only at hSw); have y4 := cellH hSw 4; have y5 := cellH hSw 5; have y6 := cellH hSw 6; simp at y4 y5 y6; go_simp <;> with_reducible rfl
      simp only [Act.put, List.setIfInBounds_toArray, List.set_cons_zero, List.set_cons_succ]
      refine take_yes 5 40 (v := ?_) rfl rfl (by kernel_rfl) (by kernel_rfl) (by kernel_rfl) noPanic_any (by rfl) hHeld ?_ ?_
      rotate_left
      · intro wx hSw; (try dsimp only at hSw); have y4 := cellH hSw 4; have y5 := cellH hSw 5; have y6 := cellH hSw 6; simp at y4 y5 y6; go_simp <;> with_reducible rfl
      simp only [Act.put, List.setIfInBounds_toArray, List.set_cons_zero, List.set_cons_succ]
      have HI7 := Lib.hid (show WdI w t A c _ _ w6.drew from HI6.out.later (Below.refl _ _).drew)
      generalize w6.drew = W7 at *
      clear HI6 hHeld
      refine one_readyH (i := 3) (by kernel_rfl) (wpOp_step rfl (fun KK hKK => ?_))
      have HKK := Lib.hid hKK
      clear hKK
      go_simp
      refine (HTX.out _).mono ?_
      rintro e w8 ⟨rfl, hb8⟩
      have HI8 := Lib.hid (HI7.out.later hb8)
      clear hb8 HI7
      refine HKK.out _ _ ⟨HI8.out.box, ?_⟩
      clear HKK KK
      (try simp only [Act.put, List.setIfInBounds_toArray, List.set_cons_zero, List.set_cons_succ])
      refine one_readyH (i := 6) (by kernel_rfl) (wpOp_step rfl (fun KK hKK => ?_))
      have HKK := Lib.hid hKK
      clear hKK
      go_simp
      refine (HIT.out t.need HOK.out.need.1 (by have := HOK.out.need.2; omega) HI8.out.low).mono ?_
      rintro e w9 ⟨rfl, hb9⟩
      have HI9 := Lib.hid (HI8.out.later hb9)
      clear hb9 HI8
      refine HKK.out _ _ ⟨HI9.out.box, ?_⟩
      clear HKK KK
      (try simp only [Act.put, List.setIfInBounds_toArray, List.set_cons_zero, List.set_cons_succ])
      refine one_readyH (i := 7) (by kernel_rfl) (wpOp_step rfl (fun KK hKK => ?_))
      have HKK := Lib.hid hKK
      clear hKK
      go_simp
      have b4 := (Below.refl w9.heap.size w9).alloc (Nat.le_refl _) (.cells #[.string sTo, .string lt, .string sNeed, .string (digB t.need)] 9)
      have HI10 := Lib.hid (HI9.out.later b4)
      have HNW := Lib.hid (cells_new w9 [.string sTo, .string lt, .string sNeed, .string (digB t.need)] 9)
      have hbase : w.heap.size + 1 ≤ (w9.alloc (.cells #[.string sTo, .string lt, .string sNeed, .string (digB t.need)] 9)).heap.size := by have := (Array.getElem?_eq_some_iff.1 HI10.out.box).1; omega
      clear b4
      refine HKK.out _ _ ⟨HI10.out.box, ?_⟩
      clear HKK KK
      (try simp only [Act.put, List.setIfInBounds_toArray, List.set_cons_zero, List.set_cons_succ])
      refine one_readyH (i := 8) (by kernel_rfl) (wpOp_step rfl (fun KK hKK => ?_))
      have HKK := Lib.hid hKK
      clear hKK
      refine step_append_own _ rfl (.tmp 35) (.tmp 42) 59 rfl (w.heap.size + 1) 9 i0 _ 1 16 Tryz.underlying59 hi0 hz0 hz1 hz2 rfl (by omega) _ _ _ rfl HI10.out.row ⟨w9.heap.size, 0, none⟩ 4 4 [.string sTo, .string lt, .string sNeed, .string (digB t.need)] rfl rfl HNW.out (by simp [Value.oneCell']) (by unfold maxLen; simp) (by simp) hbase ?_
      intro v4 w10 hown4 hg4 _
      have HI := Lib.hid (show WdI w t A c [sGate, t.name, sTo, lt, sNeed, (digB t.need)] v4 w10 from HI10.out.grow (us := [sTo, lt, sNeed, digB t.need]) hg4 rfl hown4)
      clear hown4 hg4 HI10 HI9 HNW hbase
      refine HKK.out _ _ ⟨HI.out.box, ?_⟩
      clear HKK KK
      obtain ⟨B14, d14, e14, _⟩ := HI.out.slc
      subst e14
      (try simp only [Act.put, List.setIfInBounds_toArray])
      refine one_readyH (i := 9) (by kernel_rfl) (wpOp_step rfl (fun KK hKK => ?_))
      have HKK := Lib.hid hKK
      clear hKK
      go_simp
      refine HKK.out _ _ ⟨HI.out.box, ?_⟩
      clear HKK KK
      refine wpAnyH_done (by kernel_rfl) ?_ _
      refine NoPanic.normal ?_
      (try simp only [Act.put, List.setIfInBounds_toArray, List.set_cons_zero, List.set_cons_succ])
      have x3 := cellH HI.out.box 3
      simp at x3
      go_wp2_with fail
      refine (HIT.out t.time (by have := HOK.out.time.1; omega) HOK.out.time.2 HI.out.low).mono ?_
      rintro e w3 ⟨rfl, hb3⟩
      have HI3 := Lib.hid (HI.out.later hb3)
      clear hb3 HI
      have b4 := (Below.refl w3.heap.size w3).alloc (Nat.le_refl _) (.cells #[.string sTime, .string (digB t.time)] 9)
      have HI4 := Lib.hid (HI3.out.later b4)
      have HNW := Lib.hid (cells_new w3 [.string sTime, .string (digB t.time)] 9)
      have hbase : w.heap.size + 1 ≤ (w3.alloc (.cells #[.string sTime, .string (digB t.time)] 9)).heap.size := by have := (Array.getElem?_eq_some_iff.1 HI4.out.box).1; omega
      clear b4 HI3
      go_wp2_with (at_builtin; refine wpList_append_own _ rfl (.tmp 44) (.tmp 48) 59 rfl (w.heap.size + 1) 9 i0 _ 1 16 Tryz.underlying59 hi0 hz0 hz1 hz2 rfl (by omega) _ _ _ rfl HI4.out.row ⟨w3.heap.size, 0, none⟩ 2 2 [.string sTime, .string (digB t.time)] rfl rfl HNW.out (by simp [Value.oneCell']) (by unfold maxLen; simp) (by simp) hbase ?_; intro v4 w4 hown4 hg4 _; have HI5 := Lib.hid (show WdI w t A c [sGate, t.name, sTo, lt, sNeed, (digB t.need), sTime, (digB t.time)] v4 w4 from HI4.out.grow (us := [sTime, (digB t.time)]) hg4 rfl hown4); clear hown4 hg4)
      clear HI4 HNW hbase
      obtain ⟨B11, d11, e11, _⟩ := HI5.out.slc
      subst e11
      go_ret
      refine HI5.out.out (by simp) ?_
      have hgt : 0 < t.need := by have := HOK.out.need.1; have := HG.out; omega
      have hrr : ¬ 0 < t.retry := by have := HOK.out.retry.1; omega
      rw [HRA.out, taskW, aftW, retW, gateW]
      simp [hgt, hrr, haf, HLT.out]
    · skip
      have x1 := cellH HI.out.box 1
      simp at x1
      have hl0 : (0 : Int) < (t.after.length : Int) := by have := List.length_pos_iff.2 haf; omega
      go_wp2_with fail
      refine (HNA.out haf HI.out.low).mono ?_
      rintro e w3 ⟨rfl, hb3⟩
      have HI3 := Lib.hid (HI.out.later hb3)
      clear hb3 HI
      have b4 := (Below.refl w3.heap.size w3).alloc (Nat.le_refl _) (.cells #[.string sAfter, .string nm] 9)
      have HI4 := Lib.hid (HI3.out.later b4)
      have HNW := Lib.hid (cells_new w3 [.string sAfter, .string nm] 9)
      have hbase : w.heap.size + 1 ≤ (w3.alloc (.cells #[.string sAfter, .string nm] 9)).heap.size := by have := (Array.getElem?_eq_some_iff.1 HI4.out.box).1; omega
      clear b4 HI3
      go_upto_region 6 with (at_builtin; refine wpList_append_own _ rfl (.tmp 17) (.tmp 22) 59 rfl (w.heap.size + 1) 9 i0 _ 1 16 Tryz.underlying59 hi0 hz0 hz1 hz2 rfl (by omega) _ _ _ rfl HI4.out.row ⟨w3.heap.size, 0, none⟩ 2 2 [.string sAfter, .string nm] rfl rfl HNW.out (by simp [Value.oneCell']) (by unfold maxLen; simp) (by simp) hbase ?_; intro v4 w4 hown4 hg4 _; have HI5 := Lib.hid (show WdI w t A c [sGate, t.name, sAfter, nm] v4 w4 from HI4.out.grow (us := [sAfter, nm]) hg4 rfl hown4); clear hown4 hg4)
      clear HI4 HNW hbase
      clear x1 hl0
      obtain ⟨B9, d9, e9, _⟩ := HI5.out.slc
      subst e9
      have x2 := cellH HI5.out.box 2
      simp at x2
      have hr0 : (t.retry != 0) = false := by rw [bne_eq_false_iff_eq]; exact hrt
      go_upto_region 8 with fail
      clear x2 hr0
      have x0 := cellH HI5.out.box 0
      have x1 := cellH HI5.out.box 1
      have x2 := cellH HI5.out.box 2
      have x3 := cellH HI5.out.box 3
      have x4 := cellH HI5.out.box 4
      have x5 := cellH HI5.out.box 5
      have x6 := cellH HI5.out.box 6
      simp at x0 x1 x2 x3 x4 x5 x6
      go_wp2_with fail
      refine (isgate_is _ _ _ _ _ _ _ _).mono ?_
      rintro e w6 ⟨rfl, hb6⟩
      have HI6 := Lib.hid (HI5.out.later hb6)
      clear hb6 HI5 x0 x1 x2 x3 x4 x5 x6
      have x4 := cellH HI6.out.box 4
      have x5 := cellH HI6.out.box 5
      have x6 := cellH HI6.out.box 6
      simp at x4 x5 x6
      obtain ⟨B12, d12, e12, _⟩ := HI6.out.slc
      injection e12 with e12 _ e13
      subst e12 e13
      go_upto_region 9 with fail
      clear x4 x5 x6
      refine wp_region_noPanic ?_
      refine wp_region_held_drew (S := fun W' => W'.heap[w.heap.size]? = some (.cells (tkA t A c) 47 (0, 0))) (by kernel_rfl) (by exact HI6.out.box) (fun hHeld => ?_)
      refine take_yes 0 35 (v := ?_) rfl rfl (by kernel_rfl) (by kernel_rfl) (by kernel_rfl) noPanic_any (by rfl) hHeld ?_ ?_
      rotate_left
      · intro wx hSw; (try dsimp only at hSw); have y4 := cellH hSw 4; have y5 := cellH hSw 5; have y6 := cellH hSw 6; simp at y4 y5 y6; go_simp <;> with_reducible rfl
      simp only [Act.put, List.setIfInBounds_toArray, List.set_cons_zero, List.set_cons_succ]
      refine take_yes 1 36 (v := ?_) rfl rfl (by kernel_rfl) (by kernel_rfl) (by kernel_rfl) noPanic_any (by rfl) hHeld ?_ ?_
      rotate_left
      · intro wx hSw; (try dsimp only at hSw); have y4 := cellH hSw 4; have y5 := cellH hSw 5; have y6 := cellH hSw 6; simp at y4 y5 y6; go_simp <;> with_reducible rfl
      simp only [Act.put, List.setIfInBounds_toArray, List.set_cons_zero, List.set_cons_succ]
      refine take_yes 2 37 (v := ?_) rfl rfl (by kernel_rfl) (by kernel_rfl) (by kernel_rfl) noPanic_any (by rfl) hHeld ?_ ?_
      rotate_left
      · intro wx hSw; (try dsimp only at hSw); have y4 := cellH hSw 4; have y5 := cellH hSw 5; have y6 := cellH hSw 6; simp at y4 y5 y6; go_simp <;> with_reducible rfl
      simp only [Act.put, List.setIfInBounds_toArray, List.set_cons_zero, List.set_cons_succ]
      refine take_yes 4 39 (v := ?_) rfl rfl (by kernel_rfl) (by kernel_rfl) (by kernel_rfl) noPanic_any (by rfl) hHeld ?_ ?_
      rotate_left
      · intro wx hSw; (try dsimp only at hSw); have y4 := cellH hSw 4; have y5 := cellH hSw 5; have y6 := cellH hSw 6; simp at y4 y5 y6; go_simp <;> with_reducible rfl
      simp only [Act.put, List.setIfInBounds_toArray, List.set_cons_zero, List.set_cons_succ]
      refine take_yes 5 40 (v := ?_) rfl rfl (by kernel_rfl) (by kernel_rfl) (by kernel_rfl) noPanic_any (by rfl) hHeld ?_ ?_
      rotate_left
      · intro wx hSw; (try dsimp only at hSw); have y4 := cellH hSw 4; have y5 := cellH hSw 5; have y6 := cellH hSw 6; simp at y4 y5 y6; go_simp <;> with_reducible rfl
      simp only [Act.put, List.setIfInBounds_toArray, List.set_cons_zero, List.set_cons_succ]
      have HI7 := Lib.hid (show WdI w t A c _ _ w6.drew from HI6.out.later (Below.refl _ _).drew)
      generalize w6.drew = W7 at *
      clear HI6 hHeld
      refine one_readyH (i := 3) (by kernel_rfl) (wpOp_step rfl (fun KK hKK => ?_))
      have HKK := Lib.hid hKK
      clear hKK
      go_simp
      refine (HTX.out _).mono ?_
      rintro e w8 ⟨rfl, hb8⟩
      have HI8 := Lib.hid (HI7.out.later hb8)
      clear hb8 HI7
      refine HKK.out _ _ ⟨HI8.out.box, ?_⟩
      clear HKK KK
      (try simp only [Act.put, List.setIfInBounds_toArray, List.set_cons_zero, List.set_cons_succ])
      refine one_readyH (i := 6) (by kernel_rfl) (wpOp_step rfl (fun KK hKK => ?_))
      have HKK := Lib.hid hKK
      clear hKK
      go_simp
      refine (HIT.out t.need HOK.out.need.1 (by have := HOK.out.need.2; omega) HI8.out.low).mono ?_
      rintro e w9 ⟨rfl, hb9⟩
      have HI9 := Lib.hid (HI8.out.later hb9)
      clear hb9 HI8
      refine HKK.out _ _ ⟨HI9.out.box, ?_⟩
      clear HKK KK
      (try simp only [Act.put, List.setIfInBounds_toArray, List.set_cons_zero, List.set_cons_succ])
      refine one_readyH (i := 7) (by kernel_rfl) (wpOp_step rfl (fun KK hKK => ?_))
      have HKK := Lib.hid hKK
      clear hKK
      go_simp
      have b4 := (Below.refl w9.heap.size w9).alloc (Nat.le_refl _) (.cells #[.string sTo, .string lt, .string sNeed, .string (digB t.need)] 9)
      have HI10 := Lib.hid (HI9.out.later b4)
      have HNW := Lib.hid (cells_new w9 [.string sTo, .string lt, .string sNeed, .string (digB t.need)] 9)
      have hbase : w.heap.size + 1 ≤ (w9.alloc (.cells #[.string sTo, .string lt, .string sNeed, .string (digB t.need)] 9)).heap.size := by have := (Array.getElem?_eq_some_iff.1 HI10.out.box).1; omega
      clear b4
      refine HKK.out _ _ ⟨HI10.out.box, ?_⟩
      clear HKK KK
      (try simp only [Act.put, List.setIfInBounds_toArray, List.set_cons_zero, List.set_cons_succ])
      refine one_readyH (i := 8) (by kernel_rfl) (wpOp_step rfl (fun KK hKK => ?_))
      have HKK := Lib.hid hKK
      clear hKK
      refine step_append_own _ rfl (.tmp 35) (.tmp 42) 59 rfl (w.heap.size + 1) 9 i0 _ 1 16 Tryz.underlying59 hi0 hz0 hz1 hz2 rfl (by omega) _ _ _ rfl HI10.out.row ⟨w9.heap.size, 0, none⟩ 4 4 [.string sTo, .string lt, .string sNeed, .string (digB t.need)] rfl rfl HNW.out (by simp [Value.oneCell']) (by unfold maxLen; simp) (by simp) hbase ?_
      intro v4 w10 hown4 hg4 _
      have HI := Lib.hid (show WdI w t A c [sGate, t.name, sAfter, nm, sTo, lt, sNeed, (digB t.need)] v4 w10 from HI10.out.grow (us := [sTo, lt, sNeed, digB t.need]) hg4 rfl hown4)
      clear hown4 hg4 HI10 HI9 HNW hbase
      refine HKK.out _ _ ⟨HI.out.box, ?_⟩
      clear HKK KK
      obtain ⟨B14, d14, e14, _⟩ := HI.out.slc
      subst e14
      (try simp only [Act.put, List.setIfInBounds_toArray])
      refine one_readyH (i := 9) (by kernel_rfl) (wpOp_step rfl (fun KK hKK => ?_))
      have HKK := Lib.hid hKK
      clear hKK
      go_simp
      refine HKK.out _ _ ⟨HI.out.box, ?_⟩
      clear HKK KK
      refine wpAnyH_done (by kernel_rfl) ?_ _
      refine NoPanic.normal ?_
      (try simp only [Act.put, List.setIfInBounds_toArray, List.set_cons_zero, List.set_cons_succ])
      have x3 := cellH HI.out.box 3
      simp at x3
      go_wp2_with fail
      refine (HIT.out t.time (by have := HOK.out.time.1; omega) HOK.out.time.2 HI.out.low).mono ?_
      rintro e w3 ⟨rfl, hb3⟩
      have HI3 := Lib.hid (HI.out.later hb3)
      clear hb3 HI
      have b4 := (Below.refl w3.heap.size w3).alloc (Nat.le_refl _) (.cells #[.string sTime, .string (digB t.time)] 9)
      have HI4 := Lib.hid (HI3.out.later b4)
      have HNW := Lib.hid (cells_new w3 [.string sTime, .string (digB t.time)] 9)
      have hbase : w.heap.size + 1 ≤ (w3.alloc (.cells #[.string sTime, .string (digB t.time)] 9)).heap.size := by have := (Array.getElem?_eq_some_iff.1 HI4.out.box).1; omega
      clear b4 HI3
      go_wp2_with (at_builtin; refine wpList_append_own _ rfl (.tmp 44) (.tmp 48) 59 rfl (w.heap.size + 1) 9 i0 _ 1 16 Tryz.underlying59 hi0 hz0 hz1 hz2 rfl (by omega) _ _ _ rfl HI4.out.row ⟨w3.heap.size, 0, none⟩ 2 2 [.string sTime, .string (digB t.time)] rfl rfl HNW.out (by simp [Value.oneCell']) (by unfold maxLen; simp) (by simp) hbase ?_; intro v4 w4 hown4 hg4 _; have HI5 := Lib.hid (show WdI w t A c [sGate, t.name, sAfter, nm, sTo, lt, sNeed, (digB t.need), sTime, (digB t.time)] v4 w4 from HI4.out.grow (us := [sTime, (digB t.time)]) hg4 rfl hown4); clear hown4 hg4)
      clear HI4 HNW hbase
      obtain ⟨B11, d11, e11, _⟩ := HI5.out.slc
      subst e11
      go_ret
      refine HI5.out.out (by simp) ?_
      have hgt : 0 < t.need := by have := HOK.out.need.1; have := HG.out; omega
      have hrr : ¬ 0 < t.retry := by have := HOK.out.retry.1; omega
      rw [HRA.out, taskW, aftW, retW, gateW]
      simp [hgt, hrr, haf, HNM.out, HLT.out]
end Go.Proofs.YtcfnmjhelhdobaaGreatDoor
