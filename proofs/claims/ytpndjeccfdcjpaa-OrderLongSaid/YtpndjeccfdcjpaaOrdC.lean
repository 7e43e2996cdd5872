/-
  The program's Ready and Order, of pipelines that may be. No further conditions.
-/
import Derived.Test.YtpndjeccfdcjpaaOrdX
import Derived.Test.YtpndjeccfdcjpaaMdC
import Derived.Test.YtpndjeccfdcjpaaOrdM
import Derived.Deep.DeepCutAuto
import Derived.Deep.OwnRows
namespace Go.Proofs.Ytpndjeccfdcjpaa
open Go.RowKit

theorem cell_lt {w : World} {p : Addr} {v : Value} (h : w.cell? p = some v) : p.block < w.heap.size := by
  rcases Nat.lt_or_ge p.block w.heap.size with h1 | h1
  · exact h1
  · unfold World.cell? at h
    rw [Array.getElem?_eq_none h1] at h
    simp at h
theorem RightPi.afts {p : PiP} (h : RightPi p) : ∀ t ∈ p.tasks, t.after.length ≤ 1000000 := fun t ht => by
  have h1 := h.task t ht
  have h2 := few_below _ _ h1.aft.1 h1.aft.2
  have := h.few.2
  omega
section
variable {w : World} {A D : Option Addr} {c d : Nat} {n : ByteArray} {ts : List TkP}
set_option maxHeartbeats 1000000 in
set_option maxRecDepth 100000 in
theorem oready_is {ds : List Bool} (hA : TksAt w A ts) (hp : RightPi ⟨n, ts⟩) (hD : BoolsAt w D ds) :
    Calls Try.prog 9 #[.agg #[.string n, .slice A ts.length c], .slice D ds.length d] w fun e w' => (∃ B b, e = .returned (.slice B (readyP ⟨n, ts⟩ ds).length b) ∧ NatsAt w' B (readyP ⟨n, ts⟩ ds)) ∧ Below w.heap.size w w' := by
  rw [← readyK_all]
  have b0 := (Below.refl w.heap.size w).alloc (Nat.le_refl _) (.cells #[.string n, .slice A ts.length c] 24)
  have HX := Lib.hid (made_at w (.cells #[.string n, .slice A ts.length c] 24))
  have HA := Lib.hid (hA.later b0)
  have HD := Lib.hid (hD.later b0)
  have HP := Lib.hid hp
  have HB0 := Lib.hid b0
  have h8 : ts.length ≤ 8 := hp.few.2
  clear b0 hA hD hp
  go_enter Try.func9, Try.ntmps9
  go_upto_region 1 with fail
  generalize hW0 : (w.alloc (.cells #[.string n, .slice A ts.length c] 24)) = W0 at *
  clear hW0
  have x0 := cellH HX.out 0
  have x1 := cellH HX.out 1
  simp at x0 x1
  go_wp2_with fail
  refine (mright_is (p := ⟨n, ts⟩) HA.out HP.out).mono ?_
  rintro e w1 ⟨rfl, hb1⟩
  have HB1 := Lib.hid hb1
  have HX1 := Lib.hid (later_at hb1 HX.out)
  clear hb1 x0 x1
  have x1 := cellH HX1.out 1
  simp at x1
  go_wp2_with fail
  refine (readyT_is (HA.out.later HB1.out) (HD.out.later HB1.out) h8 HP.out.afts).mono ?_
  rintro e w2 ⟨⟨B, b, rfl, hN, _⟩, hb2⟩
  have HN := Lib.hid hN
  have HB2 := Lib.hid (below_step HB0.out (below_step HB1.out hb2))
  clear hN hb2
  go_wp2_with fail
  go_ret
  exact ⟨⟨_, _, rfl, HN.out⟩, HB2.out⟩

/-- What Order answers. -/
def OrdOut (w : World) (r : Option (List Nat)) (e : Ending) (w' : World) : Prop := Below w.heap.size w w' ∧ match r with
  | none => e = .returned (.tuple #[.slice none 0 0, .bool false])
  | some l => ∃ B b, e = .returned (.tuple #[.slice B l.length b, .bool true]) ∧ NatsAt w' B l ∧ l.length ≤ b
theorem bools_own {W : World} {b : Nat} {v : Value} {ds : List Bool} {k : Nat} (h : W.ownsRow b 4 1 v k (ds.map Value.bool)) : BoolsAt W (match v with | .slice A _ _ => A | _ => none) ds := by
  have hl := h.1
  rw [List.length_map, Nat.mul_one] at hl
  rcases h.2 with ⟨rfl, e⟩ | ⟨g, cap, cur, rfl, _, hq, hcp, _, _, ht⟩
  · intro h0; omega
  · intro _
    refine ⟨_, rfl, fun i x hi => ?_⟩
    have hadd : (⟨g, 0, none⟩ : Addr).add i = ⟨g, i, none⟩ := by unfold Addr.add; split <;> simp_all
    rw [hadd, cellH hq]
    have h3 : (cur.toList.take (k * 1))[i]? = some (Value.bool x) := by rw [ht, List.getElem?_map, hi]; rfl
    rw [List.getElem?_take] at h3
    split at h3
    · simpa using h3
    · exact absurd h3 (by simp)
/-- Where Order's done lies, and what it holds. -/
structure DnAt (W : World) (g b : Nat) (ds : List Bool) : Prop where
  own : W.ownsRow b 4 1 (.slice (some ⟨g, 0, none⟩) ds.length ds.length) ds.length (ds.map Value.bool)
theorem DnAt.bools {W : World} {g b : Nat} {ds : List Bool} (h : DnAt W g b ds) : BoolsAt W (some ⟨g, 0, none⟩) ds := bools_own h.own
/-- The middle of Order: k tasks stand, those of l; ds are done. -/
structure OrdM (W0 : World) (p : PiP) (g : Nat) (k : Nat) (v : Value) (l : List Nat) (ds : List Bool) (W : World) : Prop where
  list : W.ownsRow W0.heap.size 3 1 v k (natV l)
  len : l.length = k
  done : W.ownsRow W0.heap.size 4 1 (.slice (some ⟨g, 0, none⟩) p.tasks.length p.tasks.length) p.tasks.length (ds.map Value.bool)
  dlen : ds.length = p.tasks.length
  low : Below W0.heap.size W0 W
  go : orderP p = (orderGo p (p.tasks.length - k) ds).map (l ++ ·)
theorem OrdM.later {W0 W W' : World} {p : PiP} {g k : Nat} {v : Value} {l : List Nat} {ds : List Bool} (h : OrdM W0 p g k v l ds W) (hb : Below W.heap.size W W') : OrdM W0 p g k v l ds W' :=
  ⟨own_agree h.list (fun q _ hq => hb.block q hq), h.len, own_agree h.done (fun q _ hq => hb.block q hq), h.dlen, below_step h.low hb, h.go⟩
theorem OrdM.bools {W0 W : World} {p : PiP} {g k : Nat} {v : Value} {l : List Nat} {ds : List Bool} (h : OrdM W0 p g k v l ds W) : BoolsAt W (some ⟨g, 0, none⟩) ds := bools_own h.done
theorem own_block {W : World} {b g n c : Nat} {t : TypeId} {sz : Nat} {xs : List Value} (h : W.ownsRow b t sz (.slice (some ⟨g, 0, none⟩) n c) n xs) : ∃ cur, W.heap[g]? = some (.cells cur t (0, 0)) := (own_tag h rfl).2
/-- One more stands. -/
theorem OrdM.put {W0 W W1 : World} {p : PiP} {g k i : Nat} {v v1 : Value} {l : List Nat} {ds : List Bool} {r : List Nat} (h : OrdM W0 p g k v l ds W) (hk : k < p.tasks.length) (hr : readyP p ds = i :: r)
    (ho : W1.ownsRow W0.heap.size 3 1 v1 (k + 1) (natV l ++ [.int .i64 (i : Nat)])) (hg : W.grownBy W1 v.ownBlock) :
    OrdM W0 p g (k + 1) v1 (l ++ [i]) (ds.set i true) (W1.setCell ⟨g, i, none⟩ (.bool true)) ∧ (∃ x, W1.cell? ⟨g, i, none⟩ = some (.bool x)) ∧ W1.frozen? ⟨g, i, none⟩ = false := by
  obtain ⟨cur, hcur⟩ := own_block h.done
  have h1 : W1.ownsRow W0.heap.size 4 1 (.slice (some ⟨g, 0, none⟩) p.tasks.length p.tasks.length) p.tasks.length (ds.map Value.bool) := own_frame h.done (fun q cur _ hq => hg.block q (Array.getElem?_eq_some_iff.1 hq).1 (fun e => by
    obtain ⟨_, cur', h2⟩ := own_tag h.list e.symm
    exact absurd (tag_ne hq h2) (by decide)))
  obtain ⟨cur1, hcur1⟩ := own_block h1
  have hst := h1.stored i (.bool true)
  have hi := (ready_head hr).1
  have hgb : W0.heap.size ≤ g := (own_tag h1 rfl).1
  have hgo : orderGo p (p.tasks.length - k) ds = (orderGo p (p.tasks.length - (k + 1)) (ds.set i true)).map (i :: ·) := by
    rw [show p.tasks.length - k = (p.tasks.length - (k + 1)) + 1 by omega]
    show (match readyP p ds with | [] => none | i :: _ => (orderGo p (p.tasks.length - (k + 1)) (ds.set i true)).map (i :: ·)) = _
    rw [hr]
  have hb := (own_tag h1 rfl).1
  refine ⟨⟨?_, by rw [List.length_append, h.len]; rfl, ?_, by rw [List.length_set]; exact h.dlen, ?_, ?_⟩, ?_, h1.frozenAt i⟩
  · refine own_frame (xs := natV (l ++ [i])) (by simpa [natV] using ho) (fun q cur _ hq => ?_)
    refine Below.heap_setCell W1 ⟨g, i, none⟩ (.bool true) q ?_
    intro e
    obtain rfl : q = g := e
    exact absurd (tag_ne hq hcur1) (by decide)
  · have := hst.1
    rwa [show (ds.map Value.bool).set i (.bool true) = (ds.set i true).map Value.bool by rw [List.map_set]] at this
  · exact (h.low.grown hg h.low.size (fun q hq => (own_tag h.list hq).1)).setCell hgb _
  · rw [h.go, hgo, Option.map_map]
    congr 1
    funext m
    simp
  · obtain ⟨x, hx⟩ : ∃ x, ds[i]? = some x := ⟨_, List.getElem?_eq_getElem (by rw [h.dlen]; exact hi)⟩
    obtain ⟨ad, e, hc⟩ := (bools_own h1).at_ hx
    injection e with e
    subst e
    refine ⟨x, ?_⟩
    have hadd : (⟨g, 0, none⟩ : Addr).add i = ⟨g, i, none⟩ := by unfold Addr.add; split <;> simp_all
    rwa [hadd] at hc
set_option maxHeartbeats 2000000 in
set_option maxRecDepth 100000 in
theorem oorder_is (hA : TksAt w A ts) (hp : RightPi ⟨n, ts⟩) :
    Calls Try.prog 10 #[.agg #[.string n, .slice A ts.length c]] w (OrdOut w (orderP ⟨n, ts⟩)) := by
  have b0 := (Below.refl w.heap.size w).alloc (Nat.le_refl _) (.cells #[.string n, .slice A ts.length c] 24)
  have HX := Lib.hid (made_at w (.cells #[.string n, .slice A ts.length c] 24))
  have HA := Lib.hid (hA.later b0)
  have HP := Lib.hid hp
  have HB0 := Lib.hid b0
  have h8 : ts.length ≤ 8 := hp.few.2
  obtain ⟨r0, hr0⟩ : ∃ r, r = orderP ⟨n, ts⟩ := ⟨_, rfl⟩
  rw [← hr0]
  have HR0 := Lib.hid hr0
  clear b0 hA hp hr0
  obtain ⟨i0, hi, hz0, hz1, hz2⟩ := info_all info_int
  obtain ⟨j0, hj, hy0, hy1, hy2⟩ := info_all info_boolO
  go_enter Try.func10, Try.ntmps10
  go_upto_region 1 with fail
  generalize hW0 : (w.alloc (.cells #[.string n, .slice A ts.length c] 24)) = W0 at *
  clear hW0
  have x0 := cellH HX.out 0
  have x1 := cellH HX.out 1
  simp at x0 x1
  go_wp2_with fail
  refine (mright_is (p := ⟨n, ts⟩) HA.out HP.out).mono ?_
  rintro e w1 ⟨rfl, hb1⟩
  have HB1 := Lib.hid hb1
  have HX1 := Lib.hid (later_at hb1 HX.out)
  clear hb1 x0 x1
  have x1 := cellH HX1.out 1
  simp at x1
  have hmk : ∀ W : World, (Instr.makeSlice 25 (.int .i64 (ts.length : Int)) (.int .i64 (ts.length : Int))).run Try.prog W = .ok (.slice (some ⟨W.heap.size, 0, none⟩) ts.length ts.length) (W.alloc (.cells (madeCells #[.bool false] ts.length) 4)) := fun W => run_make_row' 25 4 (.bool false) 1 Try.underlying25 info_boolO rfl .i64 .i64 ts.length (by omega) (by omega) W
  go_upto_region 5 with fail
  have hlr : (madeCells #[Value.bool false] ts.length).size = ts.length * 1 := by rw [size_madeCells, Nat.mul_one]
  have hb2 := (Below.refl w1.heap.size w1).alloc (Nat.le_refl _) (.cells (madeCells #[.bool false] ts.length) 4)
  have HM2 := Lib.hid (show OrdM w1 ⟨n, ts⟩ w1.heap.size 0 (.slice none 0 0) [] (List.replicate ts.length false) (w1.alloc (.cells (madeCells #[.bool false] ts.length) 4)) from ⟨World.ownsRow_nil _ _ _ _, rfl, by
    have h := World.ownsRow_lit (base := w1.heap.size) (e := 4) (size := 1) w1 (madeCells #[.bool false] ts.length) ts.length (Nat.le_refl _) (by unfold maxLen; omega) hlr
    rwa [toList_madeCells_one, show List.replicate ts.length (Value.bool false) = (List.replicate ts.length false).map Value.bool by rw [List.map_replicate]] at h, by simp, hb2, by
      show orderGo _ _ _ = Option.map _ _
      rw [show (fun m : List Nat => ([] : List Nat) ++ m) = id from rfl, Option.map_id]
      rfl⟩)
  have HB2 := Lib.hid (below_step HB1.out hb2)
  have HX2 := Lib.hid (later_at hb2 HX1.out)
  clear hlr hb2 hmk hj hy0 hy1 hy2
  obtain ⟨g, hg⟩ : ∃ g, g = w1.heap.size := ⟨_, rfl⟩
  obtain ⟨w2, hw2⟩ : ∃ w2, w2 = w1.alloc (.cells (madeCells #[.bool false] ts.length) 4) := ⟨_, rfl⟩
  obtain ⟨ds0, hds0⟩ : ∃ ds0, ds0 = List.replicate ts.length false := ⟨_, rfl⟩
  rw [← hw2, ← hds0] at HM2
  rw [← hw2] at HB2 HX2 ⊢
  rw [show OrdM w1 ⟨n, ts⟩ w1.heap.size 0 = OrdM w1 ⟨n, ts⟩ g 0 by rw [hg]] at HM2
  rw [← hg]
  clear hw2 hds0 hg x1 HX1
  have x1 := cellH HX2.out 1
  simp at x1
  go_wp2_with fail
  clear x1
  go_loopw [4, 17] (fun v i wr => ∃ (k : Nat) (l : List Nat) (ds : List Bool), i = .int .i64 k ∧ k ≤ ts.length ∧ Hid (OrdM w1 ⟨n, ts⟩ g k v l ds wr)) (fun _ i _ => ts.length - (intOf i).toNat)
  case atStart => exact ⟨0, [], ds0, rfl, Nat.zero_le _, HM2⟩
  case round =>
    obtain ⟨k, l, ds, rfl, hk, HM⟩ := hrel
    have hbr := below_step HB1.out HM.out.low
    have HBR := Lib.hid hbr
    by_cases hlt : k < ts.length
    · have HXR := Lib.hid (later_at HM.out.low (show w1.heap[w.heap.size]? = _ from (later_at HB1.out HX.out)))
      have x1 := cellH HXR.out 1
      simp at x1
      have hkl : (k : Int) < (ts.length : Int) := by omega
      have hdl : ds.length = ts.length := HM.out.dlen
      have hready := readyT_is (c := c) (d := ts.length) (HA.out.later HBR.out) HM.out.bools h8 HP.out.afts
      rw [readyK_all n, hdl] at hready
      obtain ⟨rs, hrs⟩ : ∃ rs, rs = readyP ⟨n, ts⟩ ds := ⟨_, rfl⟩
      rw [← hrs] at hready
      have HRD := Lib.hid hready
      have HRS := Lib.hid hrs
      clear hready hbr hrs
      go_wp2_with fail
      refine HRD.out.mono ?_
      rintro e w3 ⟨⟨B, b, rfl, hN, hNB⟩, hb3⟩
      have HNB := Lib.hid hNB
      have HN := Lib.hid hN
      have HM3 := Lib.hid (HM.out.later hb3)
      have HB3 := Lib.hid (below_step HB0.out (below_step HBR.out hb3))
      clear hN hNB hb3 x1 HRD
      by_cases h0 : rs.length = 0
      · have n1 : ((rs.length : Int) == 0) = true := by rw [h0]; rfl
        clear h0
        go_wp2_with fail
        go_ret2
        have h0 : rs.length = 0 := by simpa using n1
        have hnil : readyP ⟨n, ts⟩ ds = [] := HRS.out.symm.trans (List.eq_nil_of_length_eq_zero h0)
        have hr0 : r0 = none := by
          rw [HR0.out, HM.out.go]
          show (orderGo ⟨n, ts⟩ (ts.length - k) ds).map _ = none
          rw [show ts.length - k = (ts.length - (k + 1)) + 1 by omega]
          show (match readyP ⟨n, ts⟩ ds with | [] => none | i :: _ => (orderGo ⟨n, ts⟩ (ts.length - (k + 1)) (ds.set i true)).map (i :: ·)).map _ = none
          rw [hnil]
          rfl
        rw [hr0]
        exact ⟨HB3.out, rfl⟩
      · have n1 : ((rs.length : Int) == 0) = false := beq_eq_false_iff_ne.2 (by omega)
        have n2 : (0 : Int) < (rs.length : Int) := by omega
        obtain ⟨i, hi0⟩ : ∃ i, rs[0]? = some i := ⟨_, List.getElem?_eq_getElem (by omega)⟩
        obtain ⟨r, hr⟩ : ∃ r, readyP ⟨n, ts⟩ ds = i :: r := by
          rw [← HRS.out]
          cases rs with
          | nil => exact absurd rfl h0
          | cons y ys => exact ⟨ys, by simpa using hi0⟩
        obtain ⟨b0, o0, rfl, hc⟩ := HN.out.flat (by omega)
        have z := hc 0 (by rw [List.length_map]; omega)
        rw [List.getD_eq_getElem?_getD, List.getElem?_map, hi0] at z
        have z : w3.cell? ⟨b0, o0, none⟩ = some (.int .i64 (i : Int)) := z
        have hin : (i : Int) < (ts.length : Int) := by have : i < ts.length := (ready_head hr).1; omega
        have hi00 : (0 : Int) ≤ (i : Int) := by omega
        have HR := Lib.hid hr
        clear hc hi0 h0 hr
        have hl := HM3.out.len
        have hsz := HM3.out.low.size
        go_upto_region 11 with (at_builtin; refine wpList_append_own _ rfl _ _ 29 rfl w1.heap.size 3 i0 _ 1 8 Try.underlying29 hi hz0 hz1 hz2 rfl (by omega) _ k (natV l) rfl (HM3.out.list.alloc _) ⟨w3.heap.size, 0, none⟩ 1 1 [.int .i64 (i : Int)] rfl rfl (one_cell_new w3 _ _) (by simp [Value.oneCell']) (by unfold maxLen; omega) (by omega) (by simp; omega) ?_; intro v4 w4 hown4 hg4 _)
        obtain ⟨hm4, ⟨x, hx⟩, hfz⟩ := (HM3.out.later ((Below.refl _ _).alloc (Nat.le_refl _) (.cells #[.int .i64 (i : Int)] 3))).put hlt HR.out hown4 hg4
        have z4 : w4.cell? ⟨b0, o0, none⟩ = some (.int .i64 (i : Int)) := by
          have hz : (w3.alloc (.cells #[.int .i64 (i : Int)] 3)).cell? ⟨b0, o0, none⟩ = some (.int .i64 (i : Int)) := cell_later ((Below.refl _ _).alloc (Nat.le_refl _) _) z
          have hne : (w3.alloc (.cells #[.int .i64 (i : Int)] 3)).heap[b0]? = w4.heap[b0]? := by
            refine (hg4.block b0 ?_ ?_).symm
            · have : b0 < w3.heap.size := cell_lt z
              simp; omega
            · intro e
              obtain ⟨_, cur, hcur⟩ := own_tag HM.out.list e.symm
              have h1 := (Array.getElem?_eq_some_iff.1 hcur).1
              have h2 := HNB.out ⟨b0, o0, none⟩ rfl
              exact absurd h1 (Nat.not_lt.2 h2)
          unfold World.cell? at hz ⊢
          rw [← hne]
          exact hz
        have HM4 := Lib.hid hm4
        clear hm4 z hown4 hg4 hsz hl
        go_wp2_with fail
        go_roundw
        case rel => exact ⟨k + 1, l ++ [i], ds.set i true, by go_num, by omega, HM4⟩
        case measure => simp [intOf]; omega
    · obtain rfl : k = ts.length := by omega
      have hlk : ¬ (ts.length : Int) < (ts.length : Int) := by omega
      obtain ⟨A', c', rfl, hN, hcp⟩ := nats_own HM.out.list
      go_wp2_with fail
      go_ret2
      have hr0 : r0 = some l := by
        rw [HR0.out, HM.out.go]
        show (orderGo ⟨n, ts⟩ (ts.length - ts.length) ds).map _ = some l
        rw [Nat.sub_self]
        simp [orderGo]
      rw [hr0]
      exact ⟨below_step HB0.out HBR.out, A', c', rfl, hN.nats, hcp⟩
end
end Go.Proofs.Ytpndjeccfdcjpaa
