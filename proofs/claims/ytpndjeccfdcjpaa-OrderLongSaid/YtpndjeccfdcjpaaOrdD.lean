/-
  The program's Long, of a pipeline that may be. No further conditions.
-/
import Derived.Test.YtpndjeccfdcjpaaOrdC
import Derived.WalkKit
import Derived.BigRegion
namespace Go.Proofs.Ytpndjeccfdcjpaa
open Go.RowKit

/-- Rows in memory: the block g holds the numbers r. -/
structure RwAt (W2 : World) (g : Nat) (r : List Nat) (W : World) : Prop where
  own : W.ownsRow W2.heap.size 3 1 (.slice (some ⟨g, 0, none⟩) r.length r.length) r.length (natV r)
  low : Below W2.heap.size W2 W
theorem RwAt.cell {W2 W : World} {g : Nat} {r : List Nat} (h : RwAt W2 g r W) {i : Nat} (hi : i < r.length) : W.cell? ⟨g, i, none⟩ = some (.int .i64 (r.getD i 0 : Nat)) := by
  rw [h.own.cellAt i (by omega), List.getElem?_map, List.getElem?_eq_getElem hi, List.getD_eq_getElem?_getD, List.getElem?_eq_getElem hi]
  rfl
theorem RwAt.set {W2 W : World} {g : Nat} {r : List Nat} (h : RwAt W2 g r W) (i v : Nat) : RwAt W2 g (r.set i v) (W.setCell ⟨g, i, none⟩ (.int .i64 (v : Nat))) := by
  have hst := (h.own.stored i (.int .i64 (v : Nat))).1
  refine ⟨?_, h.low.setCell (p := ⟨g, i, none⟩) (own_tag h.own rfl).1 _⟩
  rw [List.length_set]
  rwa [show (natV r).set i (.int .i64 (v : Nat)) = natV (r.set i v) by unfold natV; rw [List.map_set]] at hst
theorem RwAt.drew {W2 W : World} {g : Nat} {r : List Nat} (h : RwAt W2 g r W) : RwAt W2 g r W.drew := ⟨h.own, h.low.drew⟩
theorem maxNI (a b : Nat) : maxI (a : Int) (b : Int) = ((max a b : Nat) : Int) := by
  unfold maxI
  split <;> omega
theorem fold_take {α β : Type} (f : β → α → β) {l : List α} {k : Nat} {x : α} (hx : l[k]? = some x) (b : β) : (l.take (k + 1)).foldl f b = f ((l.take k).foldl f b) x := by
  rw [List.take_add_one, hx, List.foldl_append]
  rfl
theorem take_le {ts : List TkP} : ∀ (l : List Nat) (s : List Nat × Nat) (K : Nat), (∀ i ∈ l, i < s.1.length) → (∀ j, s.1.getD j 0 ≤ K) → s.2 ≤ K → (∀ j, (l.foldl (rowStep ts) s).1.getD j 0 ≤ K + l.length) ∧ (l.foldl (rowStep ts) s).2 ≤ K + l.length ∧ (l.foldl (rowStep ts) s).1.length = s.1.length := by
  intro l
  induction l with
  | nil => exact fun s K _ h1 h2 => ⟨h1, h2, rfl⟩
  | cons i l ih =>
    intro s K hl hr h2
    have hi := hl i List.mem_cons_self
    have h3 := rows_le (aftN ts i) s.1 hi hr
    have := ih (rowStep ts s i) (K + 1) (fun j hj => by rw [step_len]; exact hl j (List.mem_cons_of_mem _ hj)) (fun j => by
      rw [step_at hi]
      split
      · have := h3 i; omega
      · have := hr j; omega) (by rw [step_two hi]; have := h3 i; omega)
    rw [List.foldl_cons, List.length_cons]
    refine ⟨fun j => ?_, ?_, this.2.2.trans (step_len _ _ _)⟩
    · have := this.1 j; omega
    · omega
section
variable {w : World} {A D : Option Addr} {c d : Nat} {n : ByteArray} {ts : List TkP}
set_option maxHeartbeats 2000000 in
set_option maxRecDepth 100000 in
theorem olong_is (hA : TksAt w A ts) (hp : RightPi ⟨n, ts⟩) :
    Calls Try.prog 7 #[.agg #[.string n, .slice A ts.length c]] w fun e w' => e = .returned (.int .i64 (longP ⟨n, ts⟩)) ∧ Below w.heap.size w w' := by
  have b0 := (Below.refl w.heap.size w).alloc (Nat.le_refl _) (.cells #[.string n, .slice A ts.length c] 24)
  have HX := Lib.hid (made_at w (.cells #[.string n, .slice A ts.length c] 24))
  have HA := Lib.hid (hA.later b0)
  have HP := Lib.hid hp
  have HB0 := Lib.hid b0
  have h8 : ts.length ≤ 8 := hp.few.2
  obtain ⟨r0, hr0⟩ : ∃ r, r = orderP ⟨n, ts⟩ := ⟨_, rfl⟩
  obtain ⟨ans, hans⟩ : ∃ a, a = longP ⟨n, ts⟩ := ⟨_, rfl⟩
  rw [← hans]
  have HR0 := Lib.hid hr0
  have HANS := Lib.hid hans
  clear b0 hA hp hr0 hans
  have horder := oorder_is (c := c) HA.out HP.out
  rw [← HR0.out] at horder
  have HO := Lib.hid horder
  clear horder
  go_enter Try.func7, Try.ntmps7
  go_upto_region 1 with fail
  generalize hW0 : (w.alloc (.cells #[.string n, .slice A ts.length c] 24)) = W0 at *
  clear hW0
  have x0 := cellH HX.out 0
  have x1 := cellH HX.out 1
  simp at x0 x1
  go_wp2_with fail
  refine HO.out.mono ?_
  rintro e w2 ⟨hb2, hout⟩
  obtain ⟨B, b, l, ok, rfl, hN, hl8, hlow, hful, rfl⟩ : ∃ (B : Option Addr) (b : Nat) (l : List Nat) (ok : Bool), e = .returned (.tuple #[.slice B l.length b, .bool ok]) ∧ NatsAt w2 B l ∧ l.length ≤ ts.length ∧ (∀ i ∈ l, i < l.length) ∧ (l ≠ [] → l.length = ts.length) ∧ ans = (longN ts l : Nat) := by
    have h0 := HR0.out
    have ha := HANS.out
    unfold longP at ha
    rw [← h0] at ha
    cases r0 with
    | none => exact ⟨none, 0, [], false, hout, fun h => absurd h (Nat.lt_irrefl _), Nat.zero_le _, fun i hi => absurd hi List.not_mem_nil, fun h => absurd rfl h, ha⟩
    | some l =>
      obtain ⟨B, b, he, hN, _⟩ := hout
      have h1 := order_low _ _ _ h0.symm
      refine ⟨B, b, l, true, he, hN, Nat.le_of_eq h1.1, fun i hi => ?_, fun _ => h1.1, ha⟩
      rw [h1.1]
      exact h1.2 i hi
  have HB2 := Lib.hid (below_step HB0.out hb2)
  have HX2 := Lib.hid (later_at hb2 HX.out)
  have HA2 := Lib.hid (HA.out.later hb2)
  have HN := Lib.hid hN
  have HLOW := Lib.hid hlow
  clear hb2 x0 x1 HA HX HB0 HO hout hN hlow HANS HR0
  have hmk : ∀ W : World, (Instr.makeSlice 29 (.int .i64 (l.length : Int)) (.int .i64 (l.length : Int))).run Try.prog W = .ok (.slice (some ⟨W.heap.size, 0, none⟩) l.length l.length) (W.alloc (.cells (madeCells #[.int .i64 0] l.length) 3)) := fun W => run_make_row' 29 3 (.int .i64 0) 8 Try.underlying29 info_int rfl .i64 .i64 l.length (by omega) (by omega) W
  go_upto_region 3 with fail
  have hlr : (madeCells #[Value.int .i64 0] l.length).size = l.length * 1 := by rw [size_madeCells, Nat.mul_one]
  have hb3 := (Below.refl w2.heap.size w2).alloc (Nat.le_refl _) (.cells (madeCells #[.int .i64 0] l.length) 3)
  have HR3 := Lib.hid (show RwAt w2 w2.heap.size (List.replicate l.length 0) (w2.alloc (.cells (madeCells #[.int .i64 0] l.length) 3)) from ⟨by
    have h := World.ownsRow_lit (base := w2.heap.size) (e := 3) (size := 1) w2 (madeCells #[.int .i64 0] l.length) l.length (Nat.le_refl _) (by unfold maxLen; omega) hlr
    rw [toList_madeCells_one, show List.replicate l.length (Value.int .i64 0) = natV (List.replicate l.length 0) by unfold natV; rw [List.map_replicate]; rfl] at h
    rw [List.length_replicate]
    exact h, hb3⟩)
  clear hlr hb3 hmk
  obtain ⟨g, hg⟩ : ∃ g, g = w2.heap.size := ⟨_, rfl⟩
  obtain ⟨w3, hw3⟩ : ∃ w3, w3 = w2.alloc (.cells (madeCells #[.int .i64 0] l.length) 3) := ⟨_, rfl⟩
  obtain ⟨r0, hr0⟩ : ∃ r0, r0 = List.replicate l.length 0 := ⟨_, rfl⟩
  have hrl : r0.length = l.length := by rw [hr0, List.length_replicate]
  have HZ := Lib.hid (show ∀ j, r0.getD j 0 = 0 from fun j => by rw [hr0]; exact getD_rep _ _)
  have HLN := Lib.hid (show longN ts l = (l.foldl (rowStep ts) (r0, 0)).2 by rw [hr0]; rfl)
  rw [← hw3, ← hr0] at HR3
  rw [← hw3]
  rw [show RwAt w2 w2.heap.size = RwAt w2 g by rw [hg]] at HR3
  rw [← hg]
  clear hw3 hr0 hg
  go_wp2_with fail
  go_loopw [6, 21] (fun v i wr => ∃ k : Nat, i = .int .i64 k ∧ k ≤ l.length ∧ v = .int .i64 (((l.take k).foldl (rowStep ts) (r0, 0)).2 : Nat) ∧ Hid (RwAt w2 g ((l.take k).foldl (rowStep ts) (r0, 0)).1 wr)) (fun _ i _ => l.length - (intOf i).toNat)
  case atStart => exact ⟨0, rfl, Nat.zero_le _, rfl, HR3⟩
  case round =>
    obtain ⟨k, rfl, hk, rfl, HR⟩ := hrel
    by_cases hlt : k < l.length
    · obtain ⟨i, hi⟩ : ∃ i, l[k]? = some i := ⟨_, List.getElem?_eq_getElem hlt⟩
      have hil := HLOW.out i (List.mem_of_getElem? hi)
      have hfull : l.length = ts.length := hful (by rintro rfl; exact absurd hlt (Nat.not_lt_zero _))
      have HFULL := Lib.hid hfull
      have HST := Lib.hid (fold_take (rowStep ts) hi (r0, 0))
      have hinv := take_le (ts := ts) (l.take k) (r0, 0) 0 (fun j hj => by rw [hrl]; exact HLOW.out j (List.mem_of_mem_take hj)) (fun j => by rw [HZ.out]; exact Nat.le_refl _) (Nat.le_refl _)
      obtain ⟨st, hst⟩ : ∃ st, st = (l.take k).foldl (rowStep ts) (r0, 0) := ⟨_, rfl⟩
      rw [← hst] at HST HR hinv ⊢
      rw [hrl, List.length_take] at hinv
      have HINV := Lib.hid hinv
      obtain ⟨bd, rfl, z⟩ := (HN.out.later HR.out.low).at_ hi
      obtain ⟨t, ht⟩ : ∃ t, ts[i]? = some t := ⟨_, List.getElem?_eq_getElem (by omega)⟩
      obtain ⟨pa, B1, c1, rfl, p0, pj, hna, hca⟩ := HA2.out.at_ ht
      have p1 := cell_later HR.out.low (pj 1 _ rfl)
      clear p0
      have hX := later_at HR.out.low HX2.out
      have x1 := cellH hX 1
      simp at x1
      have haft : aftN ts i = t.after := by unfold aftN; rw [List.getD_eq_getElem?_getD, ht]; rfl
      have HAFT := Lib.hid haft
      have hta : ∀ j ∈ t.after, j < ts.length := (HP.out.task t (List.mem_of_getElem? ht)).aft.1
      have hal8 : t.after.length ≤ 8 := by
        have h1 := (HP.out.task t (List.mem_of_getElem? ht)).aft
        have h2 : t.after.length ≤ ts.length := few_below _ _ h1.1 h1.2
        omega
      have HNA := Lib.hid hna
      have hk0 : (0 : Int) ≤ (k : Int) := by omega
      have hkl : (k : Int) < (l.length : Int) := by omega
      have hi0 : (0 : Int) ≤ (i : Int) := by omega
      have hil' : (i : Int) < (ts.length : Int) := by omega
      have HT1 := Lib.hid (show ∀ (j : Nat) (a : Nat), t.after[j]? = some a → a < ts.length from fun j a h => hta a (List.mem_of_getElem? h))
      clear hst hinv pj hX haft hta ht hi hna hfull
      go_wp2_with fail
      clear p1 x1 z
      go_loopw [32] (fun j wr => ∃ q : Nat, j = .int .i64 q ∧ q ≤ t.after.length ∧ Hid (RwAt w2 g ((t.after.take q).foldl (rowIn i) st.1) wr)) (fun j _ => t.after.length - (intOf j).toNat)
      case atStart => exact ⟨0, rfl, Nat.zero_le _, HR⟩
      case round =>
        clear HR
        obtain ⟨q, rfl, hq, HR⟩ := hrel
        obtain ⟨r, hr⟩ : ∃ r, r = (t.after.take q).foldl (rowIn i) st.1 := ⟨_, rfl⟩
        have hrl2 : r.length = l.length := by rw [hr, rows_len]; have := HINV.out.2.2; omega
        rw [← hr] at HR
        have HRR := Lib.hid hr
        clear hr
        by_cases hlq : q < t.after.length
        · obtain ⟨a, ha⟩ : ∃ a, t.after[q]? = some a := ⟨_, List.getElem?_eq_getElem hlq⟩
          have hal := HT1.out q a ha
          have hNW : NatsAt wr B1 t.after := HNA.out.later HR.out.low
          obtain ⟨ad, rfl, z⟩ := hNW.at_ ha
          have HNX := Lib.hid (fold_take (rowIn i) ha st.1)
          have c1 := HR.out.cell (i := i) (by omega)
          have c2 := HR.out.cell (i := a) (by have := HFULL.out; omega)
          have f1 : wr.frozen? ⟨g, i, none⟩ = false := HR.out.own.frozenAt i
          have hq0 : (0 : Int) ≤ (q : Int) := by omega
          have hql : (q : Int) < (t.after.length : Int) := by omega
          have ha0 : (0 : Int) ≤ (a : Int) := by omega
          have hall : (a : Int) < (l.length : Int) := by have := HFULL.out; omega
          have hill : (i : Int) < (l.length : Int) := by have := HFULL.out; omega
          have hset := HR.out.set i (max (r.getD i 0) (r.getD a 0))
          rw [← maxNI] at hset
          have hset := hset.drew
          obtain ⟨xi, hxi⟩ : ∃ xi, xi = r.getD i 0 := ⟨_, rfl⟩
          obtain ⟨xa, hxa⟩ : ∃ xa, xa = r.getD a 0 := ⟨_, rfl⟩
          rw [← hxi, ← hxa] at hset
          rw [← hxi] at c1
          rw [← hxa] at c2
          have HSET := Lib.hid hset
          have HXI := Lib.hid hxi
          have HXA := Lib.hid hxa
          clear hset hxi hxa ha hNW
          go_wp2_with fail
          go_region
          all_goals go_wp2_with fail
          all_goals
            go_roundw
            case rel => exact ⟨q + 1, by go_num, by omega, Lib.hid (by rw [HNX.out, ← HRR.out]; unfold rowIn; rw [← HXI.out, ← HXA.out]; exact HSET.out)⟩
            case measure => simp [intOf]; omega
        · obtain rfl : q = t.after.length := by omega
          have hlq' : ¬ (t.after.length : Int) < (t.after.length : Int) := by omega
          have hre : r = (aftN ts i).foldl (rowIn i) st.1 := by rw [HRR.out, List.take_length, HAFT.out]
          have HRE := Lib.hid hre
          have c1 := HR.out.cell (i := i) (by omega)
          have f1 : wr.frozen? ⟨g, i, none⟩ = false := HR.out.own.frozenAt i
          have hill : (i : Int) < (l.length : Int) := by have := HFULL.out; omega
          obtain ⟨xi, hxi⟩ : ∃ xi, xi = r.getD i 0 := ⟨_, rfl⟩
          have hx8 : xi ≤ 8 := by
            rw [hxi, hre]
            refine rows_le _ _ ?_ (fun j => ?_) i
            · have := HINV.out.2.2; omega
            · have := HINV.out.1 j; omega
          rw [← hxi] at c1
          have HXI := Lib.hid hxi
          have hset := HR.out.set i (xi + 1)
          rw [show ((xi + 1 : Nat) : Int) = (xi : Int) + 1 by omega] at hset
          have HSET := Lib.hid hset
          have hup : (r.set i (xi + 1)).getD i 0 = xi + 1 := by rw [getD_setN _ _ _ _ (by omega), if_pos rfl]
          have HUP := Lib.hid (show rowUp i r = r.set i (xi + 1) by unfold rowUp; rw [← hxi])
          have HUQ := Lib.hid hup
          clear hxi hre hset hup
          go_upto_region 13 with fail
          clear c1 f1
          obtain ⟨wq, hwq⟩ : ∃ wq, wq = wr.setCell ⟨g, i, none⟩ (.int .i64 ((xi : Int) + 1)) := ⟨_, rfl⟩
          rw [← hwq] at HSET ⊢
          clear hwq
          have c1 := HSET.out.cell (i := i) (by rw [List.length_set]; omega)
          rw [HUQ.out, show ((xi + 1 : Nat) : Int) = (xi : Int) + 1 by omega] at c1
          go_wp2_with fail
          go_roundw
          case rel =>
            refine ⟨k + 1, by go_num, by omega, ?_, Lib.hid ?_⟩
            · rw [HST.out]
              show _ = Value.int .i64 ((max st.2 ((rowUp i ((aftN ts i).foldl (rowIn i) st.1)).getD i 0) : Nat) : Int)
              rw [← HRE.out, HUP.out, HUQ.out, ← maxNI, show ((xi + 1 : Nat) : Int) = (xi : Int) + 1 by omega]
            · rw [HST.out]
              show RwAt w2 g (rowUp i ((aftN ts i).foldl (rowIn i) st.1)) wq
              rw [← HRE.out, HUP.out]
              exact HSET.out
          case measure => simp [intOf]; omega
    · obtain rfl : k = l.length := by omega
      have hlk : ¬ (l.length : Int) < (l.length : Int) := by omega
      go_wp2_with fail
      go_ret
      exact ⟨by rw [HLN.out]; rfl, below_step HB2.out HR.out.low⟩
end
end Go.Proofs.Ytpndjeccfdcjpaa
