/-
  The program's ahead (order): the closure that goes down, and the list that it makes. Conditions: eight tasks at most, each behind places of these, each once. The program's Round, Ahead and Behind, of pipelines that may be; Round of the empty one. No further conditions.
-/
import Derived.Test.YtfjaibaidpbppaaGreatDoorOrdD
import Derived.Sort.OwnSortedInts
import Derived.Laws.EntriesVeiled
namespace Go.Proofs.YtfjaibaidpbppaaGreatDoor
open Go.RowKit
open Go.Sort (putRow grow)

theorem cont_nat (l : List Nat) (x : Nat) : (l.map Int.ofNat).contains (x : Int) = l.contains x := by
  rw [Bool.eq_iff_iff, List.contains_iff_mem, List.contains_iff_mem, List.mem_map]
  constructor
  · rintro ⟨y, hy, e⟩
    have e : (y : Int) = (x : Int) := e
    obtain rfl : y = x := by omega
    exact hy
  · exact fun h => ⟨x, h, rfl⟩
theorem has_place {w : World} {A : Option Addr} {c : Nat} {l : List Nat} (hA : NatsAt w A l) (hl : l.length ≤ 1000000) (x : Nat) :
    Calls Tryz.prog 81 #[.slice A l.length c, .int .i64 (x : Int)] w fun e w' => e = .returned (.bool (l.contains x)) ∧ w = w' := by
  by_cases h0 : 0 < l.length
  · obtain ⟨b, o, rfl, hc⟩ := hA.flat h0
    refine (Tryz.slices_Contains_int b o l.length c (l.map Int.ofNat) x w (by rw [List.length_map]; omega) (by omega) hc).mono ?_
    rintro e w1 ⟨rfl, rfl⟩
    refine ⟨?_, rfl⟩
    rw [List.take_of_length_le (by rw [List.length_map]; omega), cont_nat]
  · obtain rfl : l = [] := List.eq_nil_of_length_eq_zero (by omega)
    refine (Tryz.slices_Contains_int_empty A c x w).mono ?_
    rintro e w1 ⟨rfl, rfl⟩
    exact ⟨rfl, rfl⟩

/-- The closure's value. -/
abbrev downV (b : Nat) : Value := .func (.func 105) #[] #[.pointer (some ⟨b, 0, none⟩), .pointer (some ⟨b + 1, 0, none⟩), .pointer (some ⟨b + 2, 0, none⟩)]
/-- What lies in memory while it goes down. -/
structure DnW (w : World) (A : Option Addr) (c : Nat) (ts : List TkP) (l : List Nat) (v : Value) (W : World) : Prop where
  low : Below w.heap.size w W
  tb : W.heap[w.heap.size]? = some (.cells #[.slice A ts.length c] 22 (0, 0))
  lc : W.heap[w.heap.size + 1]? = some (.cells #[v] 60 (0, 0))
  dn : W.heap[w.heap.size + 2]? = some (.cells #[downV w.heap.size] 34 (0, 0))
  own : W.ownsRow (w.heap.size + 3) 3 1 v l.length (natV l)
section
variable {w W W1 : World} {A : Option Addr} {c : Nat} {ts : List TkP} {l : List Nat} {v : Value}
theorem DnW.more (h : DnW w A c ts l v W) {x : Nat} {B : Option Addr} {b : Nat} (ho : W1.ownsRow (w.heap.size + 3) 3 1 (.slice B (l.length + 1) b) (l.length + 1) (natV l ++ [.int .i64 (x : Nat)]))
    (hg : (W.alloc (.cells #[.int .i64 (x : Nat)] 3)).grownBy W1 v.ownBlock) : DnW w A c ts (l ++ [x]) (.slice B (l.length + 1) b) (W1.setCell ⟨w.heap.size + 1, 0, none⟩ (.slice B (l.length + 1) b)) := by
  have hal : Below W.heap.size W (W.alloc (.cells #[.int .i64 (x : Nat)] 3)) := (Below.refl _ _).alloc (Nat.le_refl _) _
  have hlt : ∀ q cs, W.heap[q]? = some cs → q < w.heap.size + 3 → W1.heap[q]? = some cs := fun q cs hq hq3 => by
    have h1 := later_at hal hq
    rw [hg.block q (Array.getElem?_eq_some_iff.1 h1).1 (fun e => by
      have := (own_tag h.own e.symm).1
      omega)]
    exact h1
  have hset : ∀ q, q ≠ w.heap.size + 1 → (W1.setCell ⟨w.heap.size + 1, 0, none⟩ (.slice B (l.length + 1) b)).heap[q]? = W1.heap[q]? := fun q hq => Below.heap_setCell W1 ⟨w.heap.size + 1, 0, none⟩ _ q hq
  refine ⟨?_, ?_, ?_, ?_, ?_⟩
  · exact ((below_step h.low hal).grown hg (by have := h.low.size; simp; omega) (fun q hq => by have := (own_tag h.own hq).1; omega)).setCell (p := ⟨w.heap.size + 1, 0, none⟩) (by show w.heap.size ≤ w.heap.size + 1; omega) _
  · rw [hset _ (by omega)]; exact hlt _ _ h.tb (by omega)
  · have := row_set (i := 0) (v := .slice B (l.length + 1) b) (hlt _ _ h.lc (by omega))
    simpa using this
  · rw [hset _ (by omega)]; exact hlt _ _ h.dn (by omega)
  · have h2 : W1.ownsRow (w.heap.size + 3) 3 1 (.slice B (l.length + 1) b) (l ++ [x]).length (natV (l ++ [x])) := by simpa [natV] using ho
    refine own_agree (by rw [List.length_append] at h2 ⊢; exact h2) (fun q hq _ => hset q (by omega))
theorem DnW.cells4 (h : DnW w A c ts l v W) {o : Obj} (hg : (W.alloc o).grownBy W1 v.ownBlock) : W1.cell? ⟨w.heap.size + 1, 0, none⟩ = some v ∧ W1.frozen? ⟨w.heap.size + 1, 0, none⟩ = false := by
  have hal : Below W.heap.size W (W.alloc o) := (Below.refl _ _).alloc (Nat.le_refl _) _
  have h1 := later_at hal h.lc
  have h2 : W1.heap[w.heap.size + 1]? = some (.cells #[v] 60 (0, 0)) := by
    rw [hg.block _ (Array.getElem?_eq_some_iff.1 h1).1 (fun e => by
      have := (own_tag h.own e.symm).1
      omega)]
    exact h1
  exact ⟨by have := cellH h2 0; simpa using this, freeH h2 0⟩
end
set_option maxHeartbeats 4000000 in
set_option maxRecDepth 100000 in
theorem down_is {w : World} {A : Option Addr} {c : Nat} {ts : List TkP} (hA : TksAt w A ts) (hn : ts.length ≤ 8) (hall : ∀ t ∈ ts, (∀ j ∈ t.after, j < ts.length) ∧ t.after.Nodup) :
    ∀ (f i : Nat) (l : List Nat) (v : Value) (W : World), DnW w A c ts l v W → Once ts.length l → ts.length - l.length < f → i < ts.length →
      Calls Tryz.prog 105 #[.int .i64 (i : Int), .pointer (some ⟨w.heap.size, 0, none⟩), .pointer (some ⟨w.heap.size + 1, 0, none⟩), .pointer (some ⟨w.heap.size + 2, 0, none⟩)] W
        fun e W' => e = .returned (.tuple #[]) ∧ ∃ v', DnW w A c ts (downP ts f i l) v' W' := by
  intro f
  induction f with
  | zero => exact fun i l v W _ _ h => absurd h (Nat.not_lt_zero _)
  | succ f ih =>
    intro i l v W hW hl hf hi
    have IH := Lib.hid ih
    have HA := Lib.hid hA
    have HW := Lib.hid hW
    have haf : ∀ i, ∀ x ∈ aftN ts i, x < ts.length := fun i x hx => by
      unfold aftN at hx
      rw [List.getD_eq_getElem?_getD] at hx
      cases ht : ts[i]? with
      | none => rw [ht] at hx; cases hx
      | some t => rw [ht] at hx; exact (hall t (List.mem_of_getElem? ht)).1 x hx
    have HAF := Lib.hid haf
    obtain ⟨t, ht⟩ : ∃ t, ts[i]? = some t := ⟨_, List.getElem?_eq_getElem hi⟩
    have haft : aftN ts i = t.after := by unfold aftN; rw [List.getD_eq_getElem?_getD, ht]; rfl
    have hal8 : t.after.length ≤ 8 := by
      have h1 := hall t (List.mem_of_getElem? ht)
      have h2 : t.after.length ≤ ts.length := few_below _ _ h1.1 h1.2
      omega
    have HAFT := Lib.hid haft
    have HL := Lib.hid hl
    have HF := Lib.hid hf
    obtain ⟨pa, B1, c1, rfl, p0, pj, hna, hca⟩ := hA.at_ ht
    have p1 := cell_later hW.low (pj 1 _ rfl)
    have HNA := Lib.hid hna
    have x0 := cellH hW.tb 0
    simp at x0
    have hi0 : (0 : Int) ≤ (i : Int) := by omega
    have hin : (i : Int) < (ts.length : Int) := by omega
    obtain ⟨j0, hj, hz0, hz1, hz2⟩ := info_all info_int
    clear pj hna p0 haft ih hW hl hf ht haf hall hA
    go_enter Tryz.func105, Tryz.ntmps105
    go_wp2_with fail
    clear p1 x0
    go_loopw [13] (fun k wr => ∃ q : Nat, k = .int .i64 q ∧ q ≤ t.after.length ∧ Hid (∃ u, DnW w (some pa) c ts ((t.after.take q).foldl (fun l p => if l.contains p then l else downP ts f p (l ++ [p])) l) u wr)) (fun k _ => t.after.length - (intOf k).toNat)
    case atStart => exact ⟨0, rfl, Nat.zero_le _, Lib.hid ⟨v, HW.out⟩⟩
    case round =>
      obtain ⟨q, rfl, hq, HR⟩ := hrel
      by_cases hlt : q < t.after.length
      · obtain ⟨x, hx⟩ : ∃ x, t.after[q]? = some x := ⟨_, List.getElem?_eq_getElem hlt⟩
        have hxn : x < ts.length := HAF.out i x (by rw [HAFT.out]; exact List.mem_of_getElem? hx)
        have HNX := Lib.hid (fold_take (fun l p => if l.contains p then l else downP ts f p (l ++ [p])) hx l)
        have hlm : Once ts.length ((t.after.take q).foldl (fun l p => if l.contains p then l else downP ts f p (l ++ [p])) l) ∧ l.length ≤ ((t.after.take q).foldl (fun l p => if l.contains p then l else downP ts f p (l ++ [p])) l).length := by
          refine foldl_inv (P := fun b => Once ts.length b ∧ l.length ≤ b.length) (t.after.take q) (fun b hb y hy => ?_) l ⟨HL.out, Nat.le_refl _⟩
          by_cases hc : b.contains y = true
          · rw [if_pos hc]; exact hb
          · rw [if_neg hc]
            have h1 := downP_once HAF.out f y _ (hb.1.more (HAF.out i y (by rw [HAFT.out]; exact List.mem_of_mem_take hy)) (Bool.eq_false_iff.2 hc))
            refine ⟨h1.1, ?_⟩
            have h2 := h1.2
            rw [List.length_append] at h2
            have := hb.2
            omega
        obtain ⟨m, hm⟩ : ∃ m, m = (t.after.take q).foldl (fun l p => if l.contains p then l else downP ts f p (l ++ [p])) l := ⟨_, rfl⟩
        rw [← hm] at HR HNX hlm
        clear hm
        have HLM := Lib.hid hlm
        obtain ⟨u, hu⟩ := HR.out
        have HU := Lib.hid hu
        obtain ⟨B2, b2, rfl, hnr, _⟩ := nats_own hu.own
        obtain ⟨ad, rfl, z⟩ := (HNA.out.later hu.low).at_ hx
        have y0 := cellH hu.lc 0
        have yf := freeH hu.lc 0
        have d0 := cellH hu.dn 0
        simp at y0 d0
        have hq0 : (0 : Int) ≤ (q : Int) := by omega
        have hql : (q : Int) < (t.after.length : Int) := by omega
        have hml : m.length ≤ 8 := by have := hlm.1.len; omega
        have HCT := Lib.hid (has_place (c := b2) hnr.nats (by omega) x)
        obtain ⟨cb, hcb⟩ : ∃ cb, cb = m.contains x := ⟨_, rfl⟩
        rw [← hcb] at HCT HNX
        have HCB := Lib.hid hcb
        clear hlm hu hnr hx hcb HR
        cases cb with
        | true =>
          have HNY := Lib.hid (HNX.out.trans (if_pos rfl))
          clear HNX
          go_wp2_with (go_at_call 81; refine HCT.out.mono ?_; rintro e w1 ⟨rfl, rfl⟩)
          go_roundw
          case rel => exact ⟨q + 1, by go_num, by omega, Lib.hid ⟨_, by rw [HNY.out]; exact HU.out⟩⟩
          case measure => simp [intOf]; omega
        | false =>
          have HNY := Lib.hid (HNX.out.trans (if_neg Bool.false_ne_true))
          have hmore := HLM.out.1.more hxn HCB.out.symm
          have HMO := Lib.hid hmore
          have hlen := hmore.len
          have hfu : ts.length - (m ++ [x]).length < f := by
            have h1 := HF.out
            have h2 := HLM.out.2
            rw [List.length_append] at hlen ⊢
            simp only [List.length_cons, List.length_nil] at hlen ⊢
            omega
          have HFU := Lib.hid hfu
          have hsz := HU.out.low.size
          clear HNX hmore hlen hfu
          go_wp2_with (first
            | (go_at_call 81; refine HCT.out.mono ?_; rintro e w1 ⟨rfl, rfl⟩)
            | (at_builtin; refine wpList_append_own _ rfl _ _ 60 rfl (w.heap.size + 3) 3 j0 _ 1 8 Tryz.underlying60 hj hz0 hz1 hz2 rfl (by omega) (.slice B2 m.length b2) m.length (natV m) rfl (HU.out.own.alloc _) ⟨wr.heap.size, 0, none⟩ 1 1 [.int .i64 (x : Int)] rfl rfl (one_cell_new wr _ _) (by simp [Value.oneCell']) (by unfold maxLen; omega) (by omega) (by have := (Array.getElem?_eq_some_iff.1 HU.out.dn).1; simp; omega) ?_; intro v4 w4 hown4 hg4 _; obtain ⟨B4, b4, rfl⟩ := own_slice hown4; have hmo := HU.out.more hown4 hg4; have HM4 := Lib.hid hmo; have d4 := cellH hmo.dn 0; have y4 := (HU.out.cells4 hg4).1; have f4 := (HU.out.cells4 hg4).2; simp at d4; clear hmo hown4 hg4 y0 yf d0 z)
            | (go_at_call 105; refine (IH.out x (m ++ [x]) _ _ HM4.out HMO.out HFU.out hxn).mono ?_; rintro e w5 ⟨rfl, v5, h5⟩))
          go_roundw
          case rel => exact ⟨q + 1, by go_num, by omega, Lib.hid ⟨v5, by rw [HNY.out]; exact h5⟩⟩
          case measure => simp [intOf]; omega
      · obtain rfl : q = t.after.length := by omega
        have hlk : ¬ (t.after.length : Int) < (t.after.length : Int) := by omega
        have HEND := Lib.hid (show downP ts (f + 1) i l = (t.after.take t.after.length).foldl (fun l p => if l.contains p then l else downP ts f p (l ++ [p])) l by rw [List.take_length, ← HAFT.out]; rfl)
        go_wp2_with fail
        go_end0
        obtain ⟨u, hu⟩ := HR.out
        exact ⟨rfl, u, by rw [HEND.out]; exact hu⟩

/-- Numbers, rising. -/
def sortL (l : List Nat) : List Nat := ((l.map Int.ofNat).mergeSort fun x y => decide (x ≤ y)).map Int.toNat
theorem sortL_len (l : List Nat) : (sortL l).length = l.length := by
  unfold sortL
  rw [List.length_map, List.length_mergeSort, List.length_map]
theorem sortL_has (l : List Nat) (x : Nat) : (sortL l).contains x = l.contains x := by
  rw [Bool.eq_iff_iff, List.contains_iff_mem, List.contains_iff_mem]
  unfold sortL
  constructor
  · intro h
    obtain ⟨y, hy, rfl⟩ := List.mem_map.1 h
    obtain ⟨z, hz, rfl⟩ := List.mem_map.1 (List.mem_mergeSort.1 hy)
    exact hz
  · exact fun h => List.mem_map.2 ⟨_, List.mem_mergeSort.2 (List.mem_map.2 ⟨x, h, rfl⟩), rfl⟩
theorem sortL_val (l : List Nat) : natV (sortL l) = ((l.map Int.ofNat).mergeSort fun x y => decide (x ≤ y)).map (Value.int .i64) := by
  unfold natV sortL
  rw [List.map_map]
  apply List.map_congr_left
  intro z hz
  obtain ⟨y, _, rfl⟩ := List.mem_map.1 (List.mem_mergeSort.1 hz)
  rfl
theorem sort_dn {w W : World} {A B : Option Addr} {c b : Nat} {ts : List TkP} {l : List Nat} (h : DnW w A c ts l (.slice B l.length b) W) (hl : l.length ≤ 1000) :
    Calls Tryz.prog 106 #[.slice B l.length b] W fun e W' => e = .returned (.tuple #[]) ∧ DnW w A c ts (sortL l) (.slice B l.length b) W' := by
  rcases h.own.2 with ⟨hv, h0⟩ | ⟨g, cap, cur, hv, hbg, hq, hcp, hcm, hcs, ht⟩
  · obtain rfl : l = [] := List.eq_nil_of_length_eq_zero h0
    refine (Tryz.slices_Sort_int_none B b W).mono ?_
    rintro e w1 ⟨rfl, rfl⟩
    refine ⟨rfl, ?_⟩
    rw [show sortL [] = [] by simp [sortL]]
    exact h
  · injection hv with e1 _ e2
    subst e1
    subst e2
    have ht' : cur.toList.take (l.map Int.ofNat).length = (l.map Int.ofNat).map (Value.int .i64) := by
      rw [List.length_map, ← Nat.mul_one l.length, ht, List.map_map]
      rfl
    have hlen : (l.map Int.ofNat).length = l.length := List.length_map _
    have hc := Tryz.slices_Sort_int g 0 b (l.map Int.ofNat) W (holds_of_blockI hq ht') (Array.getElem?_eq_some_iff.1 hq).1 (by rw [hlen]; omega)
    rw [hlen] at hc
    refine hc.mono ?_
    rintro e w1 ⟨rfl, n, os, rfl⟩
    have hg := grownBy_sortedI (w := W) (g := g) (n := n) (os := os) ((l.map Int.ofNat).mergeSort fun x y => decide (x ≤ y)).toArray
    have hkeep : ∀ q cs, W.heap[q]? = some cs → q < w.heap.size + 3 → (grow (putRow (Value.int .i64) (Sort.ahead W n) g 0 ((l.map Int.ofNat).mergeSort fun x y => decide (x ≤ y)).toArray) os).heap[q]? = some cs := fun q cs hqs hq3 => by
      rw [hg.block q (Array.getElem?_eq_some_iff.1 hqs).1 (fun e => by injection e with e; omega)]
      exact hqs
    refine ⟨rfl, ⟨h.low.grown hg h.low.size (fun q hq => by injection hq with hq; omega), hkeep _ _ h.tb (by omega), hkeep _ _ h.lc (by omega), hkeep _ _ h.dn (by omega), ?_⟩⟩
    rw [sortL_val, sortL_len]
    have ho := ownsRow_sortedI (w := W) (base := w.heap.size + 3) (n := n) (os := os) (ss := l.map Int.ofNat) (ts := (l.map Int.ofNat).mergeSort fun x y => decide (x ≤ y)) (List.length_mergeSort _) hbg hq (by rw [hlen]; exact hcp) hcm hcs
    rwa [hlen] at ho
/-- What is ahead of i, rising. -/
def aheadL (ts : List TkP) (i : Nat) : List Nat := sortL (upP ts i)
theorem three_made (w : World) (o1 o2 o3 : Obj) : (((w.alloc o1).alloc o2).alloc o3).heap[w.heap.size]? = some o1 ∧ (((w.alloc o1).alloc o2).alloc o3).heap[w.heap.size + 1]? = some o2 ∧ (((w.alloc o1).alloc o2).alloc o3).heap[w.heap.size + 1 + 1]? = some o3 ∧ Below w.heap.size w (((w.alloc o1).alloc o2).alloc o3) := by
  have al : ∀ (v : World) (o : Obj), Below v.heap.size v (v.alloc o) := fun v o => (Below.refl _ _).alloc (Nat.le_refl _) o
  have m1 := made_at w o1
  have m2 := made_at (w.alloc o1) o2
  have m3 := made_at ((w.alloc o1).alloc o2) o3
  simp only [World.size_alloc] at m2 m3
  exact ⟨later_at (al _ _) (later_at (al _ _) m1), later_at (al _ _) m2, m3, below_step (below_step (al _ _) (al _ _)) (al _ _)⟩
set_option maxHeartbeats 4000000 in
set_option maxRecDepth 100000 in
theorem ahead_is {w : World} {A : Option Addr} {c : Nat} {ts : List TkP} (hA : TksAt w A ts) (hn : ts.length ≤ 8) (hall : ∀ t ∈ ts, (∀ j ∈ t.after, j < ts.length) ∧ t.after.Nodup) {i : Nat} (hi : i < ts.length) :
    Calls Tryz.prog 87 #[.slice A ts.length c, .int .i64 (i : Int)] w fun e w' => (∃ B b, e = .returned (.slice B (aheadL ts i).length b) ∧ NatsAt w' B (aheadL ts i)) ∧ Below w.heap.size w w' := by
  have HD := Lib.hid (fun (W : World) (h : DnW w A c ts [] (.slice none 0 0) W) => down_is hA hn hall (ts.length + 1) i [] (.slice none 0 0) W h ⟨fun x hx => absurd hx List.not_mem_nil, List.nodup_nil⟩ (by simp) hi)
  have h3 := three_made w (.cells #[.slice A ts.length c] 22) (.cells #[.slice none 0 0] 60) (.cells #[.nilFunc] 34)
  have hul : (upP ts i).length ≤ 8 := by
    have haf : ∀ i, ∀ x ∈ aftN ts i, x < ts.length := fun i x hx => by
      unfold aftN at hx
      rw [List.getD_eq_getElem?_getD] at hx
      cases ht : ts[i]? with
      | none => rw [ht] at hx; cases hx
      | some t => rw [ht] at hx; exact (hall t (List.mem_of_getElem? ht)).1 x hx
    have := (downP_once haf (ts.length + 1) i [] ⟨fun x hx => absurd hx List.not_mem_nil, List.nodup_nil⟩).1.len
    unfold upP
    omega
  clear hA hall
  go_enter Tryz.func87, Tryz.ntmps87
  go_upto_region 3 with fail
  generalize hW0 : (((w.alloc (.cells #[.slice A ts.length c] 22)).alloc (.cells #[.slice none 0 0] 60)).alloc (.cells #[.nilFunc] 34)) = W0 at *
  clear hW0
  obtain ⟨m1, m2, m3, mb⟩ := h3
  have d0 := cellH m3 0
  have f0 := freeH m3 0
  simp at d0
  have hrow := row_set (i := 0) (v := downV w.heap.size) m3
  have hset : ∀ q, q ≠ w.heap.size + 1 + 1 → (W0.setCell ⟨w.heap.size + 1 + 1, 0, none⟩ (downV w.heap.size)).heap[q]? = W0.heap[q]? := fun q hq => Below.heap_setCell W0 ⟨w.heap.size + 1 + 1, 0, none⟩ _ q hq
  have hb0 := mb.setCell (p := ⟨w.heap.size + 1 + 1, 0, none⟩) (by show w.heap.size ≤ w.heap.size + 1 + 1; omega) (downV w.heap.size)
  have hdw : DnW w A c ts [] (.slice none 0 0) (W0.setCell ⟨w.heap.size + 1 + 1, 0, none⟩ (downV w.heap.size)) := ⟨hb0, by rw [hset _ (by omega)]; exact m1, by rw [hset _ (by omega)]; exact m2, by simpa using hrow, World.ownsRow_nil _ _ _ _⟩
  have HDW := Lib.hid hdw
  have d1 := cellH hdw.dn 0
  simp at d1
  clear m1 m2 m3 mb hrow hset hb0 hdw
  go_wp2_with (go_at_call 105; refine (HD.out _ HDW.out).mono ?_; rintro e w2 ⟨rfl, v2, h2⟩; clear d0 d1 f0; obtain ⟨B2, b2, rfl, _, _⟩ := nats_own h2.own; have H2 := Lib.hid h2; have y0 := cellH h2.lc 0; simp at y0; clear h2)
  refine (sort_dn H2.out (Nat.le_trans hul (by omega))).mono ?_
  rintro e w3 ⟨rfl, h3⟩
  have H3 := Lib.hid h3
  clear y0
  have y0 := cellH h3.lc 0
  simp at y0
  clear h3
  go_wp2_with fail
  go_ret
  obtain ⟨B3, b3, e3, hN, _⟩ := nats_own H3.out.own
  have e4 : Value.slice B2 (downP ts (ts.length + 1) i []).length b2 = Value.slice B3 (aheadL ts i).length b3 := e3
  refine ⟨⟨B3, b3, congrArg Ending.returned e4, hN.nats⟩, H3.out.low⟩
end Go.Proofs.YtfjaibaidpbppaaGreatDoor

namespace Go.Proofs.YtfjaibaidpbppaaGreatDoor
open Go.RowKit

theorem RightPi.all {p : PiP} (h : RightPi p) : ∀ t ∈ p.tasks, (∀ j ∈ t.after, j < p.tasks.length) ∧ t.after.Nodup := fun t ht => (h.task t ht).aft
theorem roundP_hit {p : PiP} {k : Nat} (hk : k < p.tasks.length) (h : (upP p.tasks k).contains k = true) (hb : ∀ j, j < k → (upP p.tasks j).contains j = false) : roundP p = k := by
  unfold roundP
  have : (List.range p.tasks.length).find? (fun i => (upP p.tasks i).contains i) = some k := by
    rw [List.find?_range_eq_some]
    exact ⟨h, List.mem_range.2 hk, fun j hj => by rw [hb j hj]; rfl⟩
  rw [this]
theorem roundP_none {p : PiP} (hb : ∀ j, j < p.tasks.length → (upP p.tasks j).contains j = false) : roundP p = -1 := by
  unfold roundP
  have : (List.range p.tasks.length).find? (fun i => (upP p.tasks i).contains i) = none := by
    rw [List.find?_eq_none]
    intro x hx
    rw [hb x (List.mem_range.1 hx)]
    exact Bool.false_ne_true
  rw [this]
section
variable {w : World} {A D : Option Addr} {c d : Nat} {n : ByteArray} {ts : List TkP}
set_option maxHeartbeats 2000000 in
set_option maxRecDepth 100000 in
theorem oround_is (hA : TksAt w A ts) (hp : RightPi ⟨n, ts⟩) :
    Calls Tryz.prog 64 #[.agg #[.string n, .slice A ts.length c]] w fun e w' => e = .returned (.int .i64 (roundP ⟨n, ts⟩)) ∧ Below w.heap.size w w' := by
  have b0 := (Below.refl w.heap.size w).alloc (Nat.le_refl _) (.cells #[.string n, .slice A ts.length c] 24)
  have HX := Lib.hid (made_at w (.cells #[.string n, .slice A ts.length c] 24))
  have HA := Lib.hid (hA.later b0)
  have HP := Lib.hid hp
  have HB0 := Lib.hid b0
  have h8 : ts.length ≤ 8 := hp.few.2
  obtain ⟨r0, hr0⟩ : ∃ r, r = roundP ⟨n, ts⟩ := ⟨_, rfl⟩
  rw [← hr0]
  have HR0 := Lib.hid hr0
  have HHIT := Lib.hid (fun k hk h hb => roundP_hit (p := ⟨n, ts⟩) (k := k) hk h hb)
  have HNON := Lib.hid (fun hb => roundP_none (p := ⟨n, ts⟩) hb)
  clear b0 hA hp hr0
  go_enter Tryz.func64, Tryz.ntmps64
  go_upto_region 1 with fail
  generalize hW0 : (w.alloc (.cells #[.string n, .slice A ts.length c] 24)) = W0 at *
  clear hW0
  have x0 := cellH HX.out 0
  have x1 := cellH HX.out 1
  simp at x0 x1
  go_wp2_with fail
  refine (mright_is (p := ⟨n, ts⟩) HA.out HP.out).mono ?_
  rintro e w1 ⟨rfl, hb1⟩
  have HB1 := Lib.hid (below_step HB0.out hb1)
  have HX1 := Lib.hid (later_at hb1 HX.out)
  have HA1 := Lib.hid (HA.out.later hb1)
  clear hb1 x0 x1 HA HX HB0
  have x1 := cellH HX1.out 1
  simp at x1
  go_wp2_with fail
  clear x1
  go_loopw [10] (fun i wr => ∃ k : Nat, i = .int .i64 k ∧ k ≤ ts.length ∧ Hid (∀ j, j < k → (upP ts j).contains j = false) ∧ Hid (Below w1.heap.size w1 wr)) (fun i _ => ts.length - (intOf i).toNat)
  case atStart => exact ⟨0, rfl, Nat.zero_le _, Lib.hid (fun j hj => absurd hj (Nat.not_lt_zero _)), Lib.hid (Below.refl _ _)⟩
  case round =>
    obtain ⟨k, rfl, hk, HF, HB⟩ := hrel
    by_cases hlt : k < ts.length
    · have x1 := cellH (later_at HB.out HX1.out) 1
      simp at x1
      have hkl : (k : Int) < (ts.length : Int) := by omega
      have HAH := Lib.hid (ahead_is (c := c) (HA1.out.later HB.out) h8 HP.out.all hlt)
      obtain ⟨cb, hcb⟩ : ∃ cb, cb = (upP ts k).contains k := ⟨_, rfl⟩
      have hsh := sortL_has (upP ts k) k
      rw [← hcb] at hsh
      have HSH := Lib.hid hsh
      have HCB := Lib.hid hcb
      have hal : (aheadL ts k).length ≤ 1000000 := by
        have haf : ∀ i, ∀ x ∈ aftN ts i, x < ts.length := fun i x hx => by
          unfold aftN at hx
          rw [List.getD_eq_getElem?_getD] at hx
          cases ht : ts[i]? with
          | none => rw [ht] at hx; cases hx
          | some t => rw [ht] at hx; exact (HP.out.all t (List.mem_of_getElem? ht)).1 x hx
        have h1 := (downP_once haf (ts.length + 1) k [] ⟨fun x hx => absurd hx List.not_mem_nil, List.nodup_nil⟩).1.len
        have h2 : (aheadL ts k).length = (downP ts (ts.length + 1) k []).length := sortL_len _
        omega
      have HAL := Lib.hid hal
      clear hsh hcb hal
      go_wp2_with fail
      refine HAH.out.mono ?_
      rintro e w2 ⟨⟨B, b, rfl, hN⟩, hb2⟩
      have hct := has_place (c := b) hN HAL.out k
      rw [show (aheadL ts k).contains k = cb from HSH.out] at hct
      have HCT := Lib.hid hct
      have HB2 := Lib.hid (below_step HB.out hb2)
      clear hct hN hb2 x1
      cases cb with
      | true =>
        go_wp2_with (go_at_call 81; refine HCT.out.mono ?_; rintro e w3 ⟨rfl, rfl⟩)
        go_ret
        exact ⟨by rw [HR0.out, HHIT.out k hlt HCB.out.symm HF.out]; rfl, below_step HB1.out HB2.out⟩
      | false =>
        go_wp2_with (go_at_call 81; refine HCT.out.mono ?_; rintro e w3 ⟨rfl, rfl⟩)
        go_roundw
        case rel => exact ⟨k + 1, by go_num, by omega, Lib.hid (fun j hj => by
          rcases Nat.lt_or_ge j k with h | h
          · exact HF.out j h
          · obtain rfl : j = k := by omega
            exact HCB.out.symm), HB2⟩
        case measure => simp [intOf]; omega
    · obtain rfl : k = ts.length := by omega
      have hlk : ¬ (ts.length : Int) < (ts.length : Int) := by omega
      go_wp2_with fail
      go_ret
      exact ⟨by rw [HR0.out, HNON.out HF.out]; rfl, below_step HB1.out HB.out⟩
/-- Those of the first k in whose After i is. -/
def behindK (ts : List TkP) (i k : Nat) : List Nat := (List.range k).filter fun j => (aftN ts j).contains i
theorem behindK_next (ts : List TkP) (i k : Nat) : behindK ts i (k + 1) = behindK ts i k ++ (if (aftN ts k).contains i = true then [k] else []) := by
  unfold behindK
  rw [List.range_succ, List.filter_append, List.filter_cons]
  rfl
theorem behindK_len (ts : List TkP) (i k : Nat) : (behindK ts i k).length ≤ k := Nat.le_trans (List.length_filter_le _ _) (by simp)
set_option maxHeartbeats 1000000 in
set_option maxRecDepth 100000 in
theorem mright_no (w : World) : Calls Tryz.prog 63 #[.agg #[.string ⟨#[]⟩, .slice none 0 0]] w fun e w' => e = .returned (.bool false) ∧ Below w.heap.size w w' := by
  have b0 := (Below.refl w.heap.size w).alloc (Nat.le_refl _) (.cells #[.string ⟨#[]⟩, .slice none 0 0] 24)
  have HX := Lib.hid (made_at w (.cells #[.string ⟨#[]⟩, .slice none 0 0] 24))
  have HB0 := Lib.hid b0
  have HIN := Lib.hid (fun x : World => show Calls Tryz.prog 83 #[.string ⟨#[]⟩] x (fun e w' => e = .returned (.bool false) ∧ Below x.heap.size x w') by
    have h := isnameM_is ⟨#[]⟩ x
    rw [show nameP ⟨#[]⟩ = false by decide] at h
    exact h)
  clear b0
  go_enter Tryz.func63, Tryz.ntmps63
  go_upto_region 1 with fail
  generalize hW0 : (w.alloc (.cells #[.string ⟨#[]⟩, .slice none 0 0] 24)) = W0 at *
  clear hW0
  have x0 := cellH HX.out 0
  have x1 := cellH HX.out 1
  simp at x0 x1
  go_wp2_with (go_at_call 83; refine (HIN.out _).mono ?_; rintro e w1 ⟨rfl, hb1⟩; have HB1 := Lib.hid hb1; clear hb1)
  go_ret
  exact ⟨rfl, below_step HB0.out HB1.out⟩
set_option maxHeartbeats 1000000 in
set_option maxRecDepth 100000 in
theorem oround_no (w : World) : Calls Tryz.prog 64 #[.agg #[.string ⟨#[]⟩, .slice none 0 0]] w fun e w' => e = .returned (.int .i64 (-1)) ∧ Below w.heap.size w w' := by
  have b0 := (Below.refl w.heap.size w).alloc (Nat.le_refl _) (.cells #[.string ⟨#[]⟩, .slice none 0 0] 24)
  have HX := Lib.hid (made_at w (.cells #[.string ⟨#[]⟩, .slice none 0 0] 24))
  have HB0 := Lib.hid b0
  clear b0
  go_enter Tryz.func64, Tryz.ntmps64
  go_upto_region 1 with fail
  generalize hW0 : (w.alloc (.cells #[.string ⟨#[]⟩, .slice none 0 0] 24)) = W0 at *
  clear hW0
  have x0 := cellH HX.out 0
  have x1 := cellH HX.out 1
  simp at x0 x1
  go_wp2_with (go_at_call 63; refine (mright_no _).mono ?_; rintro e w1 ⟨rfl, hb1⟩; have HB1 := Lib.hid hb1; clear hb1)
  go_ret
  exact ⟨rfl, below_step HB0.out HB1.out⟩
end
end Go.Proofs.YtfjaibaidpbppaaGreatDoor
