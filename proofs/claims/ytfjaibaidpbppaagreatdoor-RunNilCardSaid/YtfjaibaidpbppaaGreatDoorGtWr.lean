/-
  The document's table of what each task comes behind, and its Round. Conditions: a pipeline that may be. The document's Round and May (packages lockageref09, lockageref13). Conditions: few tasks, each behind few, short names. The program's Write and Read of votes are what GateWrites asks. Conditions: what the library's variables hold, and sizes.
-/
import Derived.Test.YtfjaibaidpbppaaGreatDoorLsOk
import Derived.Test.YtfjaibaidpbppaaGreatDoorLsR
import Derived.Test.YtfjaibaidpbppaaGreatDoorFlat
import Derived.Test.YtfjaibaidpbppaaGreatDoorPhaseB
import Derived.Deep.OwnRows
import Derived.Laws.AppendOwn
import Derived.Test.YtfjaibaidpbppaaGreatDoorOrdR
import Derived.Test.YtfjaibaidpbppaaGreatDoorGtOk
import Derived.Test.YtfjaibaidpbppaaGreatDoorRd1
namespace Go.Proofs.YtfjaibaidpbppaaGreatDoor
open Go.RowKit

theorem info_boolR : (Tryz.prog.info? 4).map (fun i => (i.zero, i.size, i.bytes)) = some (some (.bool false), 1, 1) := by kernel_rfl
theorem info_boolsR : (Tryz.prog.info? 108).map (fun i => (i.zero, i.size, i.bytes)) = some (some (.slice none 0 0), 1, 24) := by kernel_rfl
def rowC (n : Nat) (g : Nat → Bool) : Array Value := ((List.range n).map fun c => Value.bool (g c)).toArray
theorem rowC_get {n c : Nat} {g : Nat → Bool} (h : c < n) : (rowC n g)[c]? = some (.bool (g c)) := by
  unfold rowC
  simp [h]
theorem rowC_set {n c : Nat} {g : Nat → Bool} {b : Bool} (h : c < n) : (rowC n g).setIfInBounds c (.bool b) = rowC n (fun q => if q = c then b else g q) := by
  unfold rowC
  apply Array.ext'
  simp only [List.setIfInBounds_toArray]
  apply List.ext_getElem?
  intro i
  rw [List.getElem?_set]
  by_cases hi : c = i
  · subst hi
    simp [h]
  · have hne : ¬ i = c := fun e => hi e.symm
    simp [hi, List.getElem?_map]
    by_cases hin : i < n
    · simp [List.getElem?_range hin, hne]
    · simp [hin]
def rowV (n : Nat) (rs : Nat → Nat) (i : Nat) : Value := .slice (some ⟨rs i, 0, none⟩) n n
/-- A table of k rows of n truths each, all made since w0. -/
structure TabW (w0 : World) (n k : Nat) (v : Value) (rs : Nat → Nat) (f : Nat → Nat → Bool) (W : World) : Prop where
  own : W.ownsRow w0.heap.size 108 1 v k ((List.range k).map (rowV n rs))
  row : ∀ i, i < k → W.heap[rs i]? = some (.cells (rowC n (f i)) 4 (0, 0))
  new : ∀ i, i < k → w0.heap.size ≤ rs i
  apart : ∀ i j, i < k → j < k → rs i = rs j → i = j
  low : Below w0.heap.size w0 W
section
variable {w0 W V : World} {n k : Nat} {v : Value} {rs : Nat → Nat} {f : Nat → Nat → Bool}
theorem TabW.later (h : TabW w0 n k v rs f W) (hb : Below W.heap.size W V) : TabW w0 n k v rs f V :=
  ⟨own_agree h.own (fun q _ hq => hb.block q hq), fun i hi => later_at hb (h.row i hi), h.new, h.apart, below_step h.low hb⟩
theorem TabW.cell (h : TabW w0 n k v rs f W) {i c : Nat} (hi : i < k) (hc : c < n) : W.cell? ⟨rs i, c, none⟩ = some (.bool (f i c)) := by
  rw [cellH (h.row i hi)]
  exact rowC_get hc
theorem TabW.free (h : TabW w0 n k v rs f W) {i c : Nat} (hi : i < k) : W.frozen? ⟨rs i, c, none⟩ = false := freeH (h.row i hi) c
theorem TabW.slc (h : TabW w0 n k v rs f W) (hk : 0 < k) : ∃ g c, v = .slice (some ⟨g, 0, none⟩) k c ∧ k ≤ c ∧ ∀ i, i < k → W.cell? ⟨g, i, none⟩ = some (rowV n rs i) := by
  obtain ⟨hl, h1⟩ := h.own
  rcases h1 with ⟨_, e⟩ | ⟨g, cap, cur, rfl, _, hg, hc, _, hs, ht⟩
  · omega
  · refine ⟨g, cap, rfl, hc, fun i hi => ?_⟩
    rw [cellH hg]
    have h2 : (cur.toList.take (k * 1))[i]? = some (rowV n rs i) := by
      rw [ht, List.getElem?_map, List.getElem?_range hi]
      rfl
    rw [List.getElem?_take_of_lt (by omega)] at h2
    simpa using h2
theorem TabW.put (h : TabW w0 n k v rs f W) {i c : Nat} (hi : i < k) (hc : c < n) (b : Bool) : TabW w0 n k v rs (setM f i c b) (W.setCell ⟨rs i, c, none⟩ (.bool b)) := by
  refine ⟨?_, fun j hj => ?_, h.new, h.apart, h.low.setCell (h.new i hi) _⟩
  · refine own_frame h.own (fun q cur hq hcur => Below.heap_setCell W ⟨rs i, c, none⟩ (.bool b) q ?_)
    intro e
    have e' : q = rs i := e
    rw [e', h.row i hi] at hcur
    injection hcur with hcur
    injection hcur with _ ht
    exact absurd ht (by decide)
  · by_cases hij : j = i
    · subst hij
      rw [row_set (h.row j hj), rowC_set hc]
      have e : (fun q => if q = c then b else f j q) = setM f j c b j := by
        funext q
        unfold setM
        by_cases hq : q = c <;> simp [hq]
      rw [e]
    · have hne : rs j ≠ rs i := fun e => hij (h.apart j i hj hi e)
      rw [show (W.setCell ⟨rs i, c, none⟩ (.bool b)).heap[rs j]? = W.heap[rs j]? from Below.heap_setCell W ⟨rs i, c, none⟩ (.bool b) (rs j) hne, h.row j hj]
      have e : setM f i c b j = f j := by
        funext q
        unfold setM
        simp [hij]
      rw [e]
theorem TabW.from_ {w : World} (hb : Below w.heap.size w w0) (h : TabW w0 n k v rs f W) : TabW w n k v rs f W := by
  refine ⟨⟨h.own.1, h.own.2.imp id ?_⟩, h.row, fun i hi => Nat.le_trans hb.size (h.new i hi), h.apart, below_step hb h.low⟩
  rintro ⟨g, cap, cur, e, hq, r⟩
  exact ⟨g, cap, cur, e, Nat.le_trans hb.size hq, r⟩
/-- One row more: g is its block. -/
theorem TabW.more (h : TabW w0 n k v rs f W) {g : Nat} (hg : W.heap[g]? = some (.cells (rowC n (f k)) 4 (0, 0))) (hnew : w0.heap.size ≤ g) (hap : ∀ i, i < k → rs i ≠ g) {v' : Value} (hw : W.grownBy V v.ownBlock) (ho : V.ownsRow w0.heap.size 108 1 v' (k + 1) ((List.range k).map (rowV n rs) ++ [.slice (some ⟨g, 0, none⟩) n n])) :
    TabW w0 n (k + 1) v' (fun i => if i = k then g else rs i) f V := by
  have far : ∀ (q : Nat) (cs : Array Value), W.heap[q]? = some (.cells cs 4 (0, 0)) → V.heap[q]? = W.heap[q]? := fun q cs hq => hw.block q (Array.getElem?_eq_some_iff.1 hq).1 (fun e => by
    obtain ⟨_, cur, h2⟩ := own_tag h.own e.symm
    rw [hq] at h2
    injection h2 with h2
    injection h2 with _ ht
    exact absurd ht (by decide))
  refine ⟨?_, fun i hi => ?_, fun i hi => ?_, fun i j hi hj e => ?_, ?_⟩
  · rw [List.range_succ, List.map_append]
    have e1 : (List.range k).map (rowV n (fun i => if i = k then g else rs i)) = (List.range k).map (rowV n rs) := List.map_congr_left (fun q hq => by
      have := List.mem_range.1 hq
      have hqk : ¬ q = k := by omega
      simp [rowV, hqk])
    rw [e1]
    simpa [rowV] using ho
  · by_cases hik : i = k
    · simp only [hik, if_true]
      exact (far g _ hg).trans hg
    · simp only [hik, if_false]
      have := h.row i (by omega)
      exact (far _ _ this).trans this
  · by_cases hik : i = k
    · simp only [hik, if_true]; exact hnew
    · simp only [hik, if_false]; exact h.new i (by omega)
  · by_cases hik : i = k
    · by_cases hjk : j = k
      · omega
      · simp only [hik, hjk, if_true, if_false] at e
        exact absurd e.symm (hap j (by omega))
    · by_cases hjk : j = k
      · simp only [hik, hjk, if_true, if_false] at e
        exact absurd e (hap i (by omega))
      · simp only [hik, hjk, if_false] at e
        exact h.apart i j (by omega) (by omega) e
  · exact h.low.grown hw h.low.size (fun q hq => (own_tag h.own hq).1)
end
/-- What Reach answers. -/
def RchOut (w : World) (ts : List TkP) (e : Ending) (w' : World) : Prop := ∃ v rs f, e = .returned v ∧ TabW w ts.length ts.length v rs f w' ∧ ∀ a b, a < ts.length → b < ts.length → (f a b = true ↔ Beh ts a b)
section
variable {w : World} {A : Option Addr} {c : Nat} {n : ByteArray} {ts : List TkP}
set_option maxHeartbeats 8000000 in
set_option maxRecDepth 100000 in
theorem refreach_is (hA : TksAt w A ts) (hp : RightPi ⟨n, ts⟩) :
    Calls Tryz.prog 61 #[.agg #[.string n, .slice A ts.length c]] w (RchOut w ts) := by
  have b0 := (Below.refl w.heap.size w).alloc (Nat.le_refl _) (.cells #[.string n, .slice A ts.length c] 24)
  have HX := Lib.hid (made_at w (.cells #[.string n, .slice A ts.length c] 24))
  have HA := Lib.hid (hA.later b0)
  have HB0 := Lib.hid b0
  have HLO := Lib.hid (show ∀ t ∈ ts, ∀ a ∈ t.after, a < ts.length from fun t ht a ha => (hp.task t ht).aft.1 a ha)
  have HAL := Lib.hid (show ∀ t ∈ ts, t.after.length ≤ 8 from fun t ht => by
    have h1 := few_below _ _ (hp.task t ht).aft.1 (hp.task t ht).aft.2
    have h2 := hp.few.2
    show t.after.length ≤ 8
    have h3 : t.after.length ≤ ts.length := h1
    have h4 : ts.length ≤ 8 := h2
    omega)
  have h8 : ts.length ≤ 8 := hp.few.2
  have h1 : 1 ≤ ts.length := hp.few.1
  clear hA hp b0
  obtain ⟨ib, hib, hbz, hbs⟩ : ∃ i, Tryz.prog.info? 108 = some i ∧ i.zero = some (.slice none 0 0) ∧ i.size = 1 ∧ i.bytes = 24 := by
    have h := info_boolsR
    cases hi : Tryz.prog.info? 108 with
    | none => rw [hi] at h; cases h
    | some i =>
      rw [hi] at h
      simp only [Option.map_some, Option.some.injEq, Prod.mk.injEq] at h
      exact ⟨i, rfl, h.1, h.2.1, h.2.2⟩
  obtain ⟨hbs, hbb⟩ := hbs
  have HMK := Lib.hid (fun (W : World) => show (Instr.makeSlice 108 (.int .i64 (ts.length : Int)) (.int .i64 (ts.length : Int))).run Tryz.prog W = .ok (.slice (some ⟨W.heap.size, 0, none⟩) ts.length ts.length) (W.alloc (.cells (madeCells #[.bool false] ts.length) 4)) from run_make_row' 108 4 (.bool false) 1 Tryz.underlying108 info_boolR rfl .i64 .i64 ts.length (by omega) (by omega) W)
  go_enter Tryz.func61, Tryz.ntmps61
  go_upto_region 1 with fail
  generalize hW0 : (w.alloc (.cells #[.string n, .slice A ts.length c] 24)) = W0 at *
  clear hW0
  have x0 := cellH HX.out 0
  have x1 := cellH HX.out 1
  simp at x0 x1
  go_wp2_with fail
  clear x0 x1
  go_loopw [4, 5, 6, 7] (fun v i _ _ wr => ∃ (k : Nat) (rs : Nat → Nat), i = .int .i64 k ∧ k ≤ ts.length ∧ Hid (TabW W0 ts.length k v rs (behB ts) wr) ∧ Hid (Below W0.heap.size W0 wr)) (fun _ i _ _ _ => ts.length - (intOf i).toNat)
  case atStart => exact ⟨0, fun _ => 0, rfl, Nat.zero_le _, Lib.hid ⟨World.ownsRow_nil _ _ _ _, fun i hi => by omega, fun i hi => by omega, fun i j hi => by omega, Below.refl _ _⟩, Lib.hid (Below.refl _ _)⟩
  case round =>
    obtain ⟨k, rs, rfl, hk, HT, HBW⟩ := hrel
    generalize wr = wo at *
    by_cases hlt : k < ts.length
    · obtain ⟨t, ht⟩ : ∃ t, ts[k]? = some t := ⟨_, List.getElem?_eq_getElem hlt⟩
      have hkl : (k : Int) < (ts.length : Int) := by omega
      have hk0 : (0 : Int) ≤ (k : Int) := by omega
      have hmk := HMK.out
      go_upto_region 7 with fail
      have hb2 := (Below.refl wo.heap.size wo).alloc (Nat.le_refl _) (.cells (madeCells #[.bool false] ts.length) 4)
      have HG := Lib.hid (show (wo.alloc (.cells (madeCells #[.bool false] ts.length) 4)).heap[wo.heap.size]? = some (.cells (rowC ts.length (fun q => (t.after.take 0).contains q)) 4 (0, 0)) from by
        rw [made_at wo _]
        have e : madeCells #[.bool false] ts.length = rowC ts.length (fun q => (t.after.take 0).contains q) := by
          apply Array.ext'
          rw [toList_madeCells_one]
          unfold rowC
          apply List.ext_getElem
          · simp
          · intro i h1 h2
            simp
        rw [e])
      have HTK := Lib.hid ht
      have HB2 := Lib.hid hb2
      clear hmk hb2 ht
      generalize hW2 : (wo.alloc (.cells (madeCells #[.bool false] ts.length) 4)) = W2 at *
      clear hW2
      obtain ⟨g, hg⟩ : ∃ g, g = wo.heap.size := ⟨_, rfl⟩
      have HGS := Lib.hid hg
      rw [← hg] at HG ⊢
      clear hg
      go_wp2_with fail
      go_loopw [7] (fun i wv => ∃ j : Nat, i = .int .i64 j ∧ j ≤ t.after.length ∧ Hid (Below wo.heap.size wo wv) ∧ Hid (wv.heap[g]? = some (.cells (rowC ts.length (fun q => (t.after.take j).contains q)) 4 (0, 0)))) (fun i _ => t.after.length - (intOf i).toNat)
      case atStart => exact ⟨0, rfl, Nat.zero_le _, HB2, HG⟩
      case round =>
        obtain ⟨j, rfl, hj, HBV, HGV⟩ := hrel
        have HXV := Lib.hid (later_at (below_step HBW.out HBV.out) HX.out)
        obtain ⟨pa, B1, c1, rfl, p0, pj, hN1, hcp1⟩ := (HA.out.later (below_step HBW.out HBV.out)).at_ HTK.out
        have p1 := pj 1 _ rfl
        have y1 := cellH HXV.out 1
        simp at y1
        have ht8 : t.after.length ≤ 8 := HAL.out t (List.mem_of_getElem? HTK.out)
        by_cases hjl : j < t.after.length
        · obtain ⟨a, ha⟩ : ∃ a, t.after[j]? = some a := ⟨_, List.getElem?_eq_getElem hjl⟩
          obtain ⟨nb, rfl, q0⟩ := hN1.at_ ha
          have hal : a < ts.length := HLO.out t (List.mem_of_getElem? HTK.out) a (List.mem_of_getElem? ha)
          have hj0 : (j : Int) < (t.after.length : Int) := by omega
          have ha0 : (0 : Int) ≤ (a : Int) := by omega
          have ha1 : (a : Int) < (ts.length : Int) := by omega
          have gf := freeH HGV.out a
          have gc : wr.cell? ⟨g, a, none⟩ = some (.bool ((t.after.take j).contains a)) := by
            rw [cellH HGV.out]
            exact rowC_get hal
          have HG3 := Lib.hid (show (wr.setCell ⟨g, a, none⟩ (.bool true)).heap[g]? = some (.cells (rowC ts.length (fun q => (t.after.take (j + 1)).contains q)) 4 (0, 0)) from by
            rw [row_set HGV.out, rowC_set hal]
            have e : (fun q => if q = a then true else (t.after.take j).contains q) = fun q => (t.after.take (j + 1)).contains q := by
              funext q
              rw [List.take_add_one, ha]
              by_cases hq : q = a <;> simp [hq]
            rw [e])
          have HB3 := Lib.hid (HBV.out.setCell (p := ⟨g, a, none⟩) (by rw [HGS.out]; exact Nat.le_refl _) (.bool true))
          clear ha hN1 pj
          go_wp2_with fail
          go_roundw
          case rel => exact ⟨j + 1, by go_num, by omega, HB3, HG3⟩
          case measure => simp [intOf]; omega
        · obtain rfl : j = t.after.length := by omega
          have hjn : ¬ (t.after.length : Int) < (t.after.length : Int) := by omega
          have HTV := Lib.hid (HT.out.later HBV.out)
          have hbase : W0.heap.size ≤ wr.heap.size := HTV.out.low.size
          have HROW := Lib.hid (show wr.heap[g]? = some (.cells (rowC ts.length (behB ts k)) 4 (0, 0)) from by
            rw [HGV.out, List.take_length]
            have e : (fun q => t.after.contains q) = behB ts k := by
              funext q
              unfold behB
              rw [List.getD_eq_getElem?_getD, HTK.out]
              rfl
            rw [e])
          have HAP := Lib.hid (show ∀ i, i < k → rs i ≠ g from fun i hi => by
            have := (Array.getElem?_eq_some_iff.1 (HT.out.row i hi)).1
            rw [HGS.out]
            omega)
          have HNW := Lib.hid (show W0.heap.size ≤ g from by rw [HGS.out]; exact HT.out.low.size)
          have HBV2 := Lib.hid (below_step HBW.out HBV.out)
          have hb5 := (Below.refl wr.heap.size wr).alloc (Nat.le_refl _) (.cells #[.slice (some ⟨g, 0, none⟩) ts.length ts.length] 108)
          have HT5 := Lib.hid (HTV.out.later hb5)
          have HR5 := Lib.hid (later_at hb5 HROW.out)
          have HB5 := Lib.hid (below_step HBV2.out hb5)
          clear hb5 pj hN1
          go_wp2_with (at_builtin; refine wpList_append_own _ rfl _ _ 106 rfl W0.heap.size 108 ib _ 1 24 Tryz.underlying106 hib hbz hbs hbb rfl (by omega) _ k ((List.range k).map (rowV ts.length rs)) rfl HT5.out.own ⟨wr.heap.size, 0, none⟩ 1 1 [.slice (some ⟨g, 0, none⟩) ts.length ts.length] rfl rfl (one_cell_new wr _ _) (by simp [Value.oneCell']) (by unfold maxLen; omega) (by omega) (by simp; omega) ?_; intro v2 w2 hown2 hg2 _)
          have HT6 := Lib.hid (HT5.out.more HR5.out HNW.out HAP.out hg2 hown2)
          have HB6 := Lib.hid (HB5.out.grown hg2 (by have := HB5.out.size; omega) (fun q hq => (own_tag HT5.out.own hq).1))
          go_roundw
          case rel => exact ⟨k + 1, _, by go_num, by omega, HT6, HB6⟩
          case measure => simp [intOf]; omega
    · obtain rfl : k = ts.length := by omega
      have hkn : ¬ (ts.length : Int) < (ts.length : Int) := by omega
      have HWM := Lib.hid (WarM.first (ts := ts) (n := ts.length) (f := behB ts) rfl (fun _ _ _ _ => rfl))
      clear HMK HA HX hib hbz hbs hbb HBW
      go_wp2_with fail
      clear hkn
      go_loopw [8, 9, 10] (fun i _ _ wr => ∃ (m : Nat) (f : Nat → Nat → Bool), i = .int .i64 m ∧ m ≤ ts.length ∧ Hid (TabW W0 ts.length ts.length u4 rs f wr) ∧ Hid (WarM ts ts.length m 0 0 f)) (fun i _ _ _ => ts.length - (intOf i).toNat)
      case atStart => exact ⟨0, _, rfl, Nat.zero_le _, HT, HWM⟩
      case round =>
        clear HT HWM
        obtain ⟨m, f, rfl, hm, HT, HWM⟩ := hrel
        by_cases hml : m < ts.length
        · have hm0 : (m : Int) < (ts.length : Int) := by omega
          clear hm
          go_wp2_with fail
          clear hm0
          go_loopw [9, 10] (fun i _ wr => ∃ (i9 : Nat) (f : Nat → Nat → Bool), i = .int .i64 i9 ∧ i9 ≤ ts.length ∧ Hid (TabW W0 ts.length ts.length u4 rs f wr) ∧ Hid (WarM ts ts.length m i9 0 f)) (fun i _ _ => ts.length - (intOf i).toNat)
          case atStart => exact ⟨0, f, rfl, Nat.zero_le _, HT, HWM⟩
          case round =>
            clear HT HWM
            obtain ⟨i9, f, rfl, hi9, HT, HWM⟩ := hrel
            by_cases hil : i9 < ts.length
            · have hi0 : (i9 : Int) < (ts.length : Int) := by omega
              clear hi9
              go_wp2_with fail
              clear hi0
              go_loopw [10] (fun i wr => ∃ (k : Nat) (f : Nat → Nat → Bool), i = .int .i64 k ∧ k ≤ ts.length ∧ Hid (TabW W0 ts.length ts.length u4 rs f wr) ∧ Hid (WarM ts ts.length m i9 k f)) (fun i _ => ts.length - (intOf i).toNat)
              case atStart => exact ⟨0, f, rfl, Nat.zero_le _, HT, HWM⟩
              case round =>
                clear HT HWM
                obtain ⟨k, f, rfl, hk, HT, HWM⟩ := hrel
                by_cases hkl : k < ts.length
                · have hk0 : (k : Int) < (ts.length : Int) := by omega
                  have hk1 : (0 : Int) ≤ (k : Int) := by omega
                  have hi0 : (i9 : Int) < (ts.length : Int) := by omega
                  have hi1 : (0 : Int) ≤ (i9 : Int) := by omega
                  have hm0 : (m : Int) < (ts.length : Int) := by omega
                  have hm1 : (0 : Int) ≤ (m : Int) := by omega
                  obtain ⟨gt, ct, rfl, hct, hrows⟩ := HT.out.slc (by omega)
                  have r0 := hrows i9 hil
                  have r1 := hrows m hml
                  unfold rowV at r0 r1
                  go_upto_region 21 with fail
                  have HT3 := Lib.hid (HT.out.later (Below.refl _ _).drew)
                  obtain ⟨b1, hb1⟩ : ∃ b, f i9 k = b := ⟨_, rfl⟩
                  obtain ⟨b2, hb2⟩ : ∃ b, f i9 m = b := ⟨_, rfl⟩
                  obtain ⟨b3, hb3⟩ : ∃ b, f m k = b := ⟨_, rfl⟩
                  have f0 : ∀ y : HeldW (fun W' => W' = wr.drew), y.w.cell? ⟨gt, i9, none⟩ = some (.slice (some ⟨rs i9, 0, none⟩) ts.length ts.length) := fun y => by rw [y.ok]; exact r0
                  have f1 : ∀ y : HeldW (fun W' => W' = wr.drew), y.w.cell? ⟨gt, m, none⟩ = some (.slice (some ⟨rs m, 0, none⟩) ts.length ts.length) := fun y => by rw [y.ok]; exact r1
                  have f2 : ∀ y : HeldW (fun W' => W' = wr.drew), y.w.cell? ⟨rs i9, k, none⟩ = some (.bool b1) := fun y => by rw [y.ok, ← hb1]; exact HT.out.cell hil hkl
                  have f3 : ∀ y : HeldW (fun W' => W' = wr.drew), y.w.cell? ⟨rs i9, m, none⟩ = some (.bool b2) := fun y => by rw [y.ok, ← hb2]; exact HT.out.cell hil hml
                  have f4 : ∀ y : HeldW (fun W' => W' = wr.drew), y.w.cell? ⟨rs m, k, none⟩ = some (.bool b3) := fun y => by rw [y.ok, ← hb3]; exact HT.out.cell hml hkl
                  have HT4 := Lib.hid (HT3.out.put hil hkl (f i9 k || (f i9 m && f m k)))
                  have HN := Lib.hid (HWM.out.step hml hil hkl)
                  have g0 : wr.drew.frozen? ⟨rs i9, k, none⟩ = false := HT3.out.free hil
                  have g1 : ∃ u, wr.drew.cell? ⟨rs i9, k, none⟩ = some u := ⟨_, HT3.out.cell hil hkl⟩
                  rw [hb1, hb2, hb3] at HT4 HN
                  clear r0 r1 hrows hb1 hb2 hb3 HT HT3 HWM
                  obtain ⟨u1, g1⟩ := g1
                  cases b1 with
                  | true =>
                    refine wp_region_phase (fun W' => W' = wr.drew) 31 1 (by kernel_rfl) (by kernel_rfl) rfl (by kernel_rfl) (by kernel_rfl) rfl ?_
                    intro hne
                    simp only [List.take_succ_cons, List.take_zero]
                    repeat (go_big_quiet_step (fail))
                    refine wpQuiet_nil ?_
                    rintro W3 ⟨⟨W3, hS3⟩, rfl⟩
                    subst hS3
                    clear f0 f1 f2 f3 f4 hne
                    refine one_ready (i := 31) (by kernel_rfl) (wpOp_step rfl (fun KK hKK => ?_))
                    have HKK := Lib.hid hKK
                    clear hKK
                    go_simp
                    refine HKK.out _ _ ?_
                    clear HKK KK
                    refine ⟨by kernel_rfl, ?_⟩
                    go_wp2_with fail
                    go_roundw
                    case rel => exact ⟨k + 1, _, by go_num, by omega, HT4, HN⟩
                    case measure => simp [intOf]; omega
                  | false =>
                    cases b2 with
                    | true =>
                      refine wp_region_phase (fun W' => W' = wr.drew) 31 1 (by kernel_rfl) (by kernel_rfl) rfl (by kernel_rfl) (by kernel_rfl) rfl ?_
                      intro hne
                      simp only [List.take_succ_cons, List.take_zero]
                      repeat (go_big_quiet_step (fail))
                      refine wpQuiet_nil ?_
                      rintro W3 ⟨⟨W3, hS3⟩, rfl⟩
                      subst hS3
                      clear f0 f1 f2 f3 f4 hne
                      refine one_ready (i := 31) (by kernel_rfl) (wpOp_step rfl (fun KK hKK => ?_))
                      have HKK := Lib.hid hKK
                      clear hKK
                      go_simp
                      refine HKK.out _ _ ?_
                      clear HKK KK
                      refine ⟨by kernel_rfl, ?_⟩
                      go_wp2_with fail
                      go_roundw
                      case rel => exact ⟨k + 1, _, by go_num, by omega, HT4, HN⟩
                      case measure => simp [intOf]; omega
                    | false =>
                      refine wp_region_phase (fun W' => W' = wr.drew) 31 1 (by kernel_rfl) (by kernel_rfl) rfl (by kernel_rfl) (by kernel_rfl) rfl ?_
                      intro hne
                      simp only [List.take_succ_cons, List.take_zero]
                      repeat (go_big_quiet_step (fail))
                      refine wpQuiet_nil ?_
                      rintro W3 ⟨⟨W3, hS3⟩, rfl⟩
                      subst hS3
                      clear f0 f1 f2 f3 f4 hne
                      refine one_ready (i := 31) (by kernel_rfl) (wpOp_step rfl (fun KK hKK => ?_))
                      have HKK := Lib.hid hKK
                      clear hKK
                      go_simp
                      refine HKK.out _ _ ?_
                      clear HKK KK
                      refine ⟨by kernel_rfl, ?_⟩
                      go_wp2_with fail
                      go_roundw
                      case rel => exact ⟨k + 1, _, by go_num, by omega, HT4, HN⟩
                      case measure => simp [intOf]; omega
                · obtain rfl : k = ts.length := by omega
                  have hkn : ¬ (ts.length : Int) < (ts.length : Int) := by omega
                  have HN := Lib.hid HWM.out.row
                  go_wp2_with fail
                  go_roundw
                  case rel => exact ⟨i9 + 1, f, by go_num, by omega, HT, HN⟩
                  case measure => simp [intOf]; omega
            · obtain rfl : i9 = ts.length := by omega
              have hkn : ¬ (ts.length : Int) < (ts.length : Int) := by omega
              have HN := Lib.hid HWM.out.all
              go_wp2_with fail
              go_roundw
              case rel => exact ⟨m + 1, f, by go_num, by omega, HT, HN⟩
              case measure => simp [intOf]; omega
        · obtain rfl : m = ts.length := by omega
          have hkn : ¬ (ts.length : Int) < (ts.length : Int) := by omega
          have HR := Lib.hid (fun a b ha hb => HWM.out.tells HLO.out (a := a) (c := b) ha hb)
          go_wp2_with fail
          go_ret
          exact ⟨_, rs, f, rfl, HT.out.from_ HB0.out, HR.out⟩
end
end Go.Proofs.YtfjaibaidpbppaaGreatDoor

namespace Go.Proofs.YtfjaibaidpbppaaGreatDoor
open Go.RowKit

/-- What Round answers: below 0 just if none comes behind itself. -/
def RndOut (w : World) (ts : List TkP) (e : Ending) (w' : World) : Prop := ∃ v : Int, e = .returned (.int .i64 v) ∧ (v < 0 ↔ ∀ i, ¬ Beh ts i i) ∧ Below w.heap.size w w'
section
variable {w : World} {A : Option Addr} {c : Nat} {n : ByteArray} {ts : List TkP}
set_option maxHeartbeats 4000000 in
set_option maxRecDepth 100000 in
theorem refround_is (hA : TksAt w A ts) (hp : RightPi ⟨n, ts⟩) :
    Calls Tryz.prog 32 #[.agg #[.string n, .slice A ts.length c]] w (RndOut w ts) := by
  have b0 := (Below.refl w.heap.size w).alloc (Nat.le_refl _) (.cells #[.string n, .slice A ts.length c] 24)
  have HX := Lib.hid (made_at w (.cells #[.string n, .slice A ts.length c] 24))
  have HA := Lib.hid (hA.later b0)
  have HB0 := Lib.hid b0
  have HP := Lib.hid hp
  have h1 : 1 ≤ ts.length := hp.few.1
  have h8 : ts.length ≤ 8 := hp.few.2
  clear hA hp b0
  go_enter Tryz.func32, Tryz.ntmps32
  go_upto_region 1 with fail
  generalize hW0 : (w.alloc (.cells #[.string n, .slice A ts.length c] 24)) = W0 at *
  clear hW0
  have x0 := cellH HX.out 0
  have x1 := cellH HX.out 1
  simp at x0 x1
  go_wp2_with fail
  refine (refrightp_is HA.out HP.out).mono ?_
  rintro e w1 ⟨rfl, hb1⟩
  have HB1 := Lib.hid (below_step HB0.out hb1)
  have HX1 := Lib.hid (later_at hb1 HX.out)
  have HA1 := Lib.hid (HA.out.later hb1)
  clear hb1 x0 x1
  have x0 := cellH HX1.out 0
  have x1 := cellH HX1.out 1
  simp at x0 x1
  go_wp2_with fail
  refine (refreach_is HA1.out HP.out).mono ?_
  rintro e w2 ⟨v, rs, f, rfl, hT, hf⟩
  have HT := Lib.hid hT
  have HF := Lib.hid hf
  have HB2 := Lib.hid (below_step HB1.out hT.low)
  obtain ⟨gt, ct, rfl, hct, hrows⟩ := hT.slc (by omega)
  have HR := Lib.hid hrows
  clear hT hf x0 x1 HX HX1 hrows
  go_wp2_with fail
  go_loopw [4] (fun i wr => ∃ k : Nat, i = .int .i64 k ∧ k ≤ ts.length ∧ Hid (∀ j, j < k → f j j = false) ∧ w2 = wr) (fun i _ => ts.length - (intOf i).toNat)
  case atStart => exact ⟨0, rfl, Nat.zero_le _, Lib.hid (fun j hj => by omega), rfl⟩
  case round =>
    obtain ⟨k, rfl, hk, HN, rfl⟩ := hrel
    by_cases hkl : k < ts.length
    · have hk0 : (k : Int) < (ts.length : Int) := by omega
      have hk1 : (0 : Int) ≤ (k : Int) := by omega
      have r0 := HR.out k hkl
      unfold rowV at r0
      obtain ⟨b, hb⟩ : ∃ b, f k k = b := ⟨_, rfl⟩
      have r1 := HT.out.cell hkl hkl
      rw [hb] at r1
      have HBB := Lib.hid hb
      clear hb
      cases b with
      | true =>
        have HE := Lib.hid (show RndOut w ts (.returned (.int .i64 k)) w2 from ⟨_, rfl, ⟨(fun h => by omega), fun h => absurd ((HF.out k k hkl hkl).1 HBB.out) (h k)⟩, HB2.out⟩)
        go_wp2_with fail
        go_ret
        exact HE.out
      | false =>
        have HN2 := Lib.hid (show ∀ j, j < k + 1 → f j j = false from fun j hj => by
          by_cases e : j = k
          · rw [e]; exact HBB.out
          · exact HN.out j (by omega))
        go_wp2_with fail
        go_roundw
        case rel => exact ⟨k + 1, by go_num, by omega, HN2, by trivial⟩
        case measure => simp [intOf]; omega
    · obtain rfl : k = ts.length := by omega
      have hkn : ¬ (ts.length : Int) < (ts.length : Int) := by omega
      have HE := Lib.hid (show RndOut w ts (.returned (.int .i64 (-1))) w2 from ⟨_, rfl, ⟨(fun _ i hi => by
        have := HN.out i hi.low
        rw [(HF.out i i hi.low hi.low).2 hi] at this
        cases this), fun _ => by omega⟩, HB2.out⟩)
      go_wp2_with fail
      go_ret
      exact HE.out
/-- The tasks up to the k-th, where they are gates, have one ahead. -/
def GatK (ts : List TkP) (k : Nat) : Prop := ∀ j t, j < k → ts[j]? = some t → 0 < t.need → t.after.length = 1
theorem GatK.all (h : GatK ts ts.length) : ∀ t ∈ ts, 0 < t.need → t.after.length = 1 := fun t ht hn => by
  obtain ⟨i, hi, rfl⟩ := List.getElem_of_mem ht
  exact h i _ hi (List.getElem?_eq_getElem hi) hn
/-- What May answers: true of one that may be; R is what its caller tells of the others. -/
def MyOut (R : Prop) (w : World) (A : Option Addr) (n : ByteArray) (ts : List TkP) (e : Ending) (w' : World) : Prop := (∃ b, e = .returned (.bool b) ∧ (b = true → MayP n ts ∧ TksAt w A ts) ∧ (b = false → R ∨ ¬ MayP n ts)) ∧ Below w.heap.size w w'
theorem myOut_no {R : Prop} {w w' : World} {A : Option Addr} {n : ByteArray} {ts : List TkP} (h : R ∨ ¬ MayP n ts) (hb : Below w.heap.size w w') : MyOut R w A n ts (.returned (.bool false)) w' := ⟨⟨false, rfl, (fun h => by cases h), fun _ => h⟩, hb⟩
set_option maxHeartbeats 4000000 in
set_option maxRecDepth 100000 in
/-- May, whose Right is told by its caller. -/
theorem refmay_of {R : Prop} (hR : ∀ W : World, Below w.heap.size w W → Calls Tryz.prog 31 #[.agg #[.string n, .slice A ts.length c]] W fun e w' => (∃ b, e = .returned (.bool b) ∧ (b = true → TksAt w A ts ∧ RightPi ⟨n, ts⟩) ∧ (b = false → R)) ∧ Below W.heap.size W w') :
    Calls Tryz.prog 9 #[.agg #[.string n, .slice A ts.length c]] w (MyOut R w A n ts) := by
  have b0 := (Below.refl w.heap.size w).alloc (Nat.le_refl _) (.cells #[.string n, .slice A ts.length c] 24)
  have HX := Lib.hid (made_at w (.cells #[.string n, .slice A ts.length c] 24))
  have HB0 := Lib.hid b0
  have HR := Lib.hid hR
  clear hR b0
  go_enter Tryz.func9, Tryz.ntmps9
  go_upto_region 1 with fail
  generalize hW0 : (w.alloc (.cells #[.string n, .slice A ts.length c] 24)) = W0 at *
  clear hW0
  have x0 := cellH HX.out 0
  have x1 := cellH HX.out 1
  simp at x0 x1
  go_wp2_with fail
  refine (HR.out W0 HB0.out).mono ?_
  rintro e w1 ⟨⟨b, rfl, hyes, hno⟩, hb1⟩
  have HB1 := Lib.hid (below_step HB0.out hb1)
  have HX1 := Lib.hid (later_at hb1 HX.out)
  clear hb1 x0 x1 HR HX
  have x0 := cellH HX1.out 0
  have x1 := cellH HX1.out 1
  simp at x0 x1
  cases b with
  | false =>
    have HNO := Lib.hid (hno rfl)
    clear hno hyes
    go_wp2_with fail
    go_ret
    exact myOut_no (.inl HNO.out) HB1.out
  | true =>
  obtain ⟨hA, hp⟩ := hyes rfl
  have HA := Lib.hid hA
  have HP := Lib.hid hp
  have h8 : ts.length ≤ 8 := hp.few.2
  clear hno hyes hA hp
  go_wp2_with fail
  refine (refround_is (HA.out.later HB1.out) HP.out).mono ?_
  rintro e w2 ⟨v, rfl, hv, hb2⟩
  have HV := Lib.hid hv
  have HB2 := Lib.hid (below_step HB1.out hb2)
  have HX2 := Lib.hid (later_at hb2 HX1.out)
  clear hb2 x0 x1 hv HX1
  by_cases hv0 : (0 : Int) ≤ v
  · have HNO := Lib.hid (show ¬ MayP n ts from fun h => by have := HV.out.2 h.round; omega)
    go_wp2_with fail
    go_ret
    exact myOut_no (.inr HNO.out) HB2.out
  have HRD := Lib.hid (HV.out.1 (by omega))
  clear HV
  go_wp2_with fail
  go_loopw [3] (fun i wr => ∃ k : Nat, i = .int .i64 k ∧ k ≤ ts.length ∧ Hid (GatK ts k) ∧ w2 = wr) (fun i _ => ts.length - (intOf i).toNat)
  case atStart => exact ⟨0, rfl, Nat.zero_le _, Lib.hid (fun j _ hj => by omega), rfl⟩
  case round =>
    obtain ⟨k, rfl, hk, HN, rfl⟩ := hrel
    have x1 := cellH HX2.out 1
    simp at x1
    by_cases hkl : k < ts.length
    · have hk0 : (k : Int) < (ts.length : Int) := by omega
      have hk1 : (0 : Int) ≤ (k : Int) := by omega
      obtain ⟨t, ht⟩ : ∃ t, ts[k]? = some t := ⟨_, List.getElem?_eq_getElem hkl⟩
      obtain ⟨pa, B1, c1, rfl, p0, pj, hN1, hcp1⟩ := (HA.out.later HB2.out).at_ ht
      have p1 := pj 1 _ rfl
      have p4 := pj 4 _ rfl
      have HTK := Lib.hid ht
      clear pj p0 hN1 ht
      by_cases hg : 0 < t.need
      · by_cases hl : t.after.length = 1
        · have HN2 := Lib.hid (show GatK ts (k + 1) from fun j u hj hu hn => by
            by_cases e : j = k
            · rw [e, HTK.out] at hu
              injection hu with hu
              rw [← hu]; exact hl
            · exact HN.out j u (by omega) hu hn)
          have hl' : ((t.after.length : Int) != 1) = false := by rw [bne_eq_false_iff_eq]; omega
          clear hl
          go_wp2_with fail
          go_roundw
          case rel => exact ⟨k + 1, by go_num, by omega, HN2, by trivial⟩
          case measure => simp [intOf]; omega
        · have HNO := Lib.hid (show ¬ MayP n ts from fun h => hl (h.gate t (List.mem_of_getElem? HTK.out) hg))
          have hl' : ((t.after.length : Int) != 1) = true := by rw [bne_iff_ne]; omega
          clear hl
          go_wp2_with fail
          go_ret
          exact myOut_no (.inr HNO.out) HB2.out
      · have HN2 := Lib.hid (show GatK ts (k + 1) from fun j u hj hu hn => by
          by_cases e : j = k
          · rw [e, HTK.out] at hu
            injection hu with hu
            rw [← hu] at hn; exact absurd hn hg
          · exact HN.out j u (by omega) hu hn)
        go_wp2_with fail
        go_roundw
        case rel => exact ⟨k + 1, by go_num, by omega, HN2, by trivial⟩
        case measure => simp [intOf]; omega
    · obtain rfl : k = ts.length := by omega
      have hkn : ¬ (ts.length : Int) < (ts.length : Int) := by omega
      have HY := Lib.hid (show MayP n ts from ⟨HP.out, HRD.out, HN.out.all⟩)
      go_wp2_with fail
      go_ret
      exact ⟨⟨true, rfl, fun _ => ⟨HY.out, HA.out⟩, (fun h => by cases h)⟩, HB2.out⟩
/-- May of one that may be. -/
theorem refmay_yes (hA : TksAt w A ts) (hp : MayP n ts) : Calls Tryz.prog 9 #[.agg #[.string n, .slice A ts.length c]] w fun e w' => e = .returned (.bool true) ∧ Below w.heap.size w w' := by
  refine (refmay_of (R := False) (fun W hb => (refrightp_is (hA.later hb) hp.right).mono ?_)).mono ?_
  · rintro e w' ⟨rfl, hb'⟩
    exact ⟨⟨true, rfl, fun _ => ⟨hA, hp.right⟩, (fun h => by cases h)⟩, hb'⟩
  · rintro e w' ⟨⟨b, rfl, _, hno⟩, hb'⟩
    cases b with
    | true => exact ⟨rfl, hb'⟩
    | false => exact absurd hp ((hno rfl).resolve_left id)
end
/-- May of any few pipeline: only of one that may be. -/
theorem refmay_only {w : World} {A : Option Addr} {c : Nat} {n : ByteArray} {us : List TkI} (hA : TksI w A us) (hF : FewI n us) (hs : ∀ t ∈ us, 0 ≤ t.st ∧ t.st ≤ 65535) :
    Calls Tryz.prog 9 #[.agg #[.string n, .slice A us.length c]] w fun e w' => (∃ b, e = .returned (.bool b) ∧ (b = true → MayP n (us.map TkI.toP) ∧ TksAt w A (us.map TkI.toP))) ∧ Below w.heap.size w w' := by
  have hlen : (us.map TkI.toP).length = us.length := List.length_map ..
  rw [← hlen]
  refine (refmay_of (R := True) (fun W hb => ?_)).mono ?_
  · rw [hlen]
    refine (refrighti_is (hA.later hb) hF).mono ?_
    rintro e w' ⟨⟨b, rfl, hb1⟩, hb'⟩
    refine ⟨⟨b, rfl, fun h => ?_, fun _ => trivial⟩, hb'⟩
    have hr := hb1 h
    refine ⟨hA.tks (fun t ht v hv => ?_), hr.right hs⟩
    obtain ⟨i, hi, rfl⟩ := List.getElem_of_mem ht
    obtain ⟨j, hj, rfl⟩ := List.getElem_of_mem hv
    exact ((hr.task i _ (List.getElem?_eq_getElem hi)).1.aft j _ (List.getElem?_eq_getElem hj)).1
  · rintro e w' ⟨⟨b, rfl, hy, _⟩, hb'⟩
    exact ⟨⟨b, rfl, hy⟩, hb'⟩
end Go.Proofs.YtfjaibaidpbppaaGreatDoor

namespace Go.Proofs.YtfjaibaidpbppaaGreatDoor
open Go.RowKit

theorem ints_at_one {W : World} {g : Nat} {n : Int} {t : TypeId} (h : W.heap[g]? = some (.cells #[.int .i64 n] t (0, 0))) : IntsAt W (some ⟨g, 0, none⟩) [n] := fun _ => ⟨_, rfl, fun i m hi => by
  rcases i with _ | i
  · obtain rfl : n = m := by simpa using hi
    have e : (⟨g, 0, none⟩ : Addr).add 0 = ⟨g, 0, none⟩ := rfl
    rw [e, cellH h]
    rfl
  · simp at hi⟩
theorem intsAt_of {W : World} {A : Option Addr} {l : List Int} (h : IntsL W A l) : IntsAt W A l := fun hn => by
  obtain ⟨ad, e, hc⟩ := h hn
  refine ⟨ad, e, fun i n hi => ?_⟩
  rw [hc i (List.getElem?_eq_some_iff.1 hi).1, List.getD_eq_getElem?_getD, hi]
  rfl
theorem intsL_onlyO {W V : World} {O : List Nat} {A : Option Addr} {l : List Int} (h : IntsL W A l) (ho : OnlyO O W V) (hO : 0 < l.length → Off A O) : IntsL V A l := fun hn => by
  obtain ⟨ad, e, hc⟩ := h hn
  exact ⟨ad, e, fun i hi => cell_onlyO ho (by rw [add_block]; exact hO hn ad e) (hc i hi)⟩
theorem off_new12 {W : World} {O O' : List Nat} {A : Option Addr} {l : List Int} (h : IntsL W A l) (hO : 0 < l.length → Off A O) (hn : New O O' W) : 0 < l.length → Off A O' := fun hl ad e hm => by
  obtain ⟨ad', e', hc⟩ := h hl
  obtain rfl := Option.some.inj (e'.symm.trans e)
  rcases hn _ hm with h1 | h1
  · exact hO hl ad' e h1
  · have h2 := hc 0 hl
    have h3 : (ad'.add 0).block < W.heap.size := by
      unfold World.cell? at h2
      cases hh : W.heap[(ad'.add 0).block]? with
      | some o => exact (Array.getElem?_eq_some_iff.1 hh).1
      | none => rw [hh] at h2; simp at h2
    rw [add_block] at h3
    omega
theorem votL_int {yes : List Int} {no : Bool} (hr : ∀ z ∈ yes, -9223372036854775808 ≤ z ∧ z ≤ 9223372036854775807) (hn : yes.length ≤ 1000) : ∀ z ∈ votL yes no, -9223372036854775808 ≤ z ∧ z ≤ 9223372036854775807 := fun z hz => by
  rcases List.mem_cons.1 hz with rfl | hz
  · omega
  · rcases List.mem_append.1 hz with hz | hz
    · exact hr z hz
    · obtain rfl : z = if no then 1 else 0 := by simpa using hz
      split <;> omega
theorem intsX_app (T : ByteArray) (a b : List Int) : intsX (intsX T a) b = intsX T (a ++ b) := by
  unfold intsX
  rw [List.foldl_append]
theorem votL_size {T : ByteArray} {yes : List Int} {no : Bool} (hr : ∀ z ∈ yes, -9223372036854775808 ≤ z ∧ z ≤ 9223372036854775807) (hn : yes.length ≤ 1000) (hT : T.size ≤ 100000000) : (intsX T (votL yes no)).size ≤ 140737488355328 := by
  have h1 := intsX_size (votL yes no) T (votL_int hr hn)
  have h2 : (votL yes no).length = yes.length + 2 := by simp [votL]
  omega
section
variable {w W : World} {A : Option Addr} {c m P : Nat} {T : ByteArray} {yes : List Int} {O : List Nat}
set_option maxHeartbeats 4000000 in
set_option maxRecDepth 100000 in
theorem gwrite_v (no : Bool) (h : WrV W O P T) (hA : IntsL W A yes) (hAO : 0 < yes.length → Off A O) (hr : ∀ z ∈ yes, -9223372036854775808 ≤ z ∧ z ≤ 9223372036854775807) (hn : yes.length ≤ 1000) (hT : T.size ≤ 100000000) :
    Calls Tryz.prog 73 #[.pointer (some ⟨P, 0, none⟩), .agg #[.slice A yes.length c, .bool no]] W (WroteV W O P (intsX T (votL yes no))) := by
  have HSZ := Lib.hid (votL_size (no := no) hr hn hT)
  have HINT := Lib.hid (votL_int (no := no) hr hn)
  have HR := Lib.hid hr
  have HLOW := Lib.hid (fun i (hi : i ∈ O) => h.wr.low.2 i hi)
  have m0 := made_at W (.cells #[.slice A yes.length c, .bool no] 75)
  have b0 := (Below.refl W.heap.size W).alloc (Nat.le_refl _) (.cells #[.slice A yes.length c, .bool no] 75)
  have z0 : (W.alloc (.cells #[.slice A yes.length c, .bool no] 75)).heap.size = W.heap.size + 1 := World.size_alloc _ _
  have HV0 := Lib.hid (h.below b0)
  have HA0 := Lib.hid (IntsL.later hA b0)
  have HAO := Lib.hid hAO
  clear h hA hAO hr
  go_enter Tryz.func73, Tryz.ntmps73
  go_upto_region 1 with fail
  generalize hW0 : (W.alloc (.cells #[.slice A yes.length c, .bool no] 75)) = W0 at *
  clear hW0
  have x0 := cellH m0 0
  simp at x0
  have b1 := (Below.refl W0.heap.size W0).alloc (Nat.le_refl _) (.cells #[.int .i64 (yes.length : Int)] 3)
  have m1 := made_at W0 (.cells #[.int .i64 (yes.length : Int)] 3)
  rw [z0] at m1
  have hs1 : (intsX T [(yes.length : Int)]).size ≤ 140737488355328 := by
    have := intsX_part T (votL yes no) 1
    have := HSZ.out
    have e : (votL yes no).take 1 = [(yes.length : Int)] := rfl
    rw [← e]
    omega
  have HC1 := Lib.hid (wint_is (HV0.out.below b1) (some ⟨W.heap.size + 1, 0, none⟩) [(yes.length : Int)] 1 (ints_at_one m1) (fun ad e hm => by obtain rfl := Option.some.inj e; have := HLOW.out _ hm; have h2 : W.heap.size + 1 < W.heap.size := this; omega) (fun z hz => by rw [List.mem_singleton.1 hz]; omega) (by simp) hs1)
  have HM0 := Lib.hid m0
  have HB0 := Lib.hid b0
  have HB1 := Lib.hid b1
  clear hs1 b0 b1 m1 m0 HV0
  go_wp2_with fail
  refine HC1.out.mono ?_
  rintro e w2 ⟨rfl, O2, hV2, hN2, hO2⟩
  have HO2 := Lib.hid ((OnlyO.of_below (O := O) (below_step HB0.out HB1.out)).trans hO2 New.refl)
  have HL2 := Lib.hid (show ∀ i ∈ O2, i ≠ W.heap.size from fun i hi e => by
    have h1 := HB1.out.size
    rcases hN2 i hi with h2 | h2
    · have := HLOW.out i h2
      omega
    · omega)
  have HN2 := Lib.hid ((New.refl (O := O) (a := W)).trans hN2 (by have := HB1.out.size; omega))
  have hm2 : w2.heap[W.heap.size]? = some (.cells #[.slice A yes.length c, .bool no] 75 (0, 0)) := by
    have h1 := later_at HB1.out HM0.out
    rw [hO2.block W.heap.size (Array.getElem?_eq_some_iff.1 h1).1 (fun hm => by have := HLOW.out _ hm; omega)]
    exact h1
  have HAW := Lib.hid (IntsL.later HA0.out HB1.out)
  have HA2 := Lib.hid (intsL_onlyO HAW.out hO2 HAO.out)
  have HAO2 := Lib.hid (off_new12 HAW.out HAO.out hN2)
  have hs2 : (intsX (intsX T [(yes.length : Int)]) yes).size ≤ 140737488355328 := by
    have h1 := intsX_part T (votL yes no) (yes.length + 1)
    have h2 := HSZ.out
    have e : (votL yes no).take (yes.length + 1) = [(yes.length : Int)] ++ yes := by simp [votL]
    rw [intsX_app, ← e]
    omega
  have HC2 := Lib.hid (wint_any hV2 A yes c (intsAt_of HA2.out) HAO2.out HR.out (by omega) hs2)
  have x0 := cellH hm2 0
  simp at x0
  have HM2 := Lib.hid hm2
  clear hm2 hV2 hN2 hO2 hs2 HC1 HA0 HAO HAW HB1 HM0 HA2 HAO2
  go_wp2_with fail
  refine HC2.out.mono ?_
  rintro e w3 ⟨rfl, O3, hV3, hN3, hO3⟩
  have HO3 := Lib.hid (HO2.out.trans hO3 HN2.out)
  have HN3 := Lib.hid (HN2.out.trans hN3 HO2.out.size)
  have hm3 : w3.heap[W.heap.size]? = some (.cells #[.slice A yes.length c, .bool no] 75 (0, 0)) := by
    rw [hO3.block W.heap.size (Array.getElem?_eq_some_iff.1 HM2.out).1 (fun hm => HL2.out _ hm rfl)]
    exact HM2.out
  have HL3 := Lib.hid (show ∀ i ∈ O3, i < w3.heap.size from fun i hi => hV3.wr.low.2 i hi)
  have x1 := cellH hm3 1
  simp at x1
  have b4 := (Below.refl w3.heap.size w3).alloc (Nat.le_refl _) (.cells #[.int .i64 (if no then 1 else 0)] 3)
  have m4 := made_at w3 (.cells #[.int .i64 (if no then 1 else 0)] 3)
  have hs3 : (intsX (intsX (intsX T [(yes.length : Int)]) yes) [if no then 1 else 0]).size ≤ 140737488355328 := by
    rw [intsX_app, intsX_app]
    exact HSZ.out
  have HC3 := Lib.hid (wint_is (hV3.below b4) (some ⟨w3.heap.size, 0, none⟩) [if no then 1 else 0] 1 (ints_at_one m4) (fun ad e hm => by obtain rfl := Option.some.inj e; have := HL3.out _ hm; have h2 : w3.heap.size < w3.heap.size := this; omega) (fun z hz => by rw [List.mem_singleton.1 hz]; split <;> omega) (by simp) hs3)
  have HB4 := Lib.hid b4
  have HEQ := Lib.hid (show intsX (intsX (intsX T [(yes.length : Int)]) yes) [if no then 1 else 0] = intsX T (votL yes no) by rw [intsX_app, intsX_app]; rfl)
  clear b4 m4 hs3 hm3 hV3 hN3 hO3 HC2 HM2 x0
  cases no with
  | true =>
    go_wp2_with fail
    refine HC3.out.mono ?_
    rintro e w5 ⟨rfl, O5, hV5, hN5, hO5⟩
    rw [HEQ.out] at hV5
    have HR5 := Lib.hid (show WroteV W O P (intsX T (votL yes true)) (.returned (.tuple #[])) w5 from ⟨rfl, O5, hV5, HN3.out.trans hN5 (by have := HO3.out.size; have := HB4.out.size; omega), (HO3.out.trans (OnlyO.of_below (O := O3) HB4.out) HN3.out).trans hO5 HN3.out⟩)
    clear hV5 hN5 hO5 HC3
    go_wp2_with fail
    exact bodyPost_ret (v := .tuple #[]) (by simp [results, Tryz.results73, go_sem]) rfl HR5.out
  | false =>
    go_wp2_with fail
    refine HC3.out.mono ?_
    rintro e w5 ⟨rfl, O5, hV5, hN5, hO5⟩
    rw [HEQ.out] at hV5
    have HR5 := Lib.hid (show WroteV W O P (intsX T (votL yes false)) (.returned (.tuple #[])) w5 from ⟨rfl, O5, hV5, HN3.out.trans hN5 (by have := HO3.out.size; have := HB4.out.size; omega), (HO3.out.trans (OnlyO.of_below (O := O3) HB4.out) HN3.out).trans hO5 HN3.out⟩)
    clear hV5 hN5 hO5 HC3
    go_wp2_with fail
    exact bodyPost_ret (v := .tuple #[]) (by simp [results, Tryz.results73, go_sem]) rfl HR5.out
/-- The votes lie off the Writer's rows. -/
theorem gwrite_is (no : Bool) (hw : WrB w W m P T) (hl : Below w.heap.size w W) (hA : IntsL W A yes) (hAO : 0 < yes.length → ∀ ad, A = some ad → ad.block < w.heap.size ∨ m ≤ ad.block) (hr : ∀ z ∈ yes, -9223372036854775808 ≤ z ∧ z ≤ 9223372036854775807) (hn : yes.length ≤ 1000) (hT : T.size ≤ 100000000) :
    Calls Tryz.prog 73 #[.pointer (some ⟨P, 0, none⟩), .agg #[.slice A yes.length c, .bool no]] W (WroteB w W m P (intsX T (votL yes no))) := by
  obtain ⟨O, h1, h2⟩ := hw
  refine (gwrite_v no h1 hA (fun hn ad e hm => ?_) hr hn hT).mono fun _ _ g => wroteB hl h2 g
  have h3 := h2 _ hm
  rcases hAO hn ad e with h4 | h4 <;> omega
end
end Go.Proofs.YtfjaibaidpbppaaGreatDoor
