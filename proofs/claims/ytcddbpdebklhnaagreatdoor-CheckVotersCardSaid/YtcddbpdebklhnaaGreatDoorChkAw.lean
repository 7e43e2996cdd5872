/-
  The first line of layer 10's laws, over what the program's check answers of one pipeline and roster. Conditions: what the library's variable holds.
-/
import Derived.Test.YtcddbpdebklhnaaGreatDoorChkW
import Derived.Test.YtcddbpdebklhnaaGreatDoorLexH
import Derived.OwnWalk
namespace Go.Proofs.YtcddbpdebklhnaaGreatDoor
open Go.RowKit

abbrev ckN : ByteArray := ⟨#[112]⟩
abbrev ckT : List TkP := [⟨⟨#[97]⟩, [], 0, 1, 0, 0, 0⟩, ⟨⟨#[103]⟩, [0], 0, 1, 1, 0, 0⟩]
def ckL (i : Nat) : Int := if i = 0 then 0 else 3
def ckS (i : Nat) : Int := if i = 0 then 0 else 1
def ck1 (_ : Nat) : Int := 1
def ck3 (_ : Nat) : Int := 3
/-- What the program's check must answer. -/
structure ChkAw : Prop where
  fit : ∀ {w : World} {A : Option Addr} {c R : Nat}, TksAt w A ckT → 2 ≤ c → RosAt w R 2 1 ckL ckS ck1 ck3 ck1 → Calls Tryz.prog 9 #[.agg #[.string ckN, .slice A (2 : Nat) c], .pointer (some ⟨R, 0, none⟩), .int .i64 1] w fun e w' => e = .returned .nilIface ∧ Below w.heap.size w w'
  low : ∀ {w : World} {A : Option Addr} {c R : Nat}, TksAt w A ckT → 2 ≤ c → RosAt w R 2 1 ckL ckS ck1 ck3 ck1 → Calls Tryz.prog 9 #[.agg #[.string ckN, .slice A (2 : Nat) c], .pointer (some ⟨R, 0, none⟩), .int .i64 0] w fun e w' => (∃ F, e = .returned (fltV F) ∧ FaultAt w' F 1 9) ∧ Below w.heap.size w w'
  none_ : ∀ {w : World} {A : Option Addr} {c R : Nat}, TksAt w A ckT → 2 ≤ c → RosAt w R 2 1 ckL ckS ck1 ck3 ck1 → Calls Tryz.prog 9 #[.agg #[.string ckN, .slice A (2 : Nat) c], .pointer (some ⟨R, 0, none⟩), .int .i64 2] w fun e w' => (∃ F, e = .returned (fltV F) ∧ FaultAt w' F (-1) 1) ∧ Below w.heap.size w w'
  voters : ∀ {w : World} {R : Nat}, RosAt w R 2 1 ckL ckS ck1 ck3 ck1 → Calls Tryz.prog 12 #[.pointer (some ⟨R, 0, none⟩), .int .i64 1, .agg #[.int .i64 0, .int .u16 0]] w fun e w' => (∃ B b, e = .returned (.slice B (1 : Nat) b) ∧ NatsAt w' B [0]) ∧ Below w.heap.size w w'
  targets : ∀ {w : World} {A : Option Addr} {c R : Nat}, TksAt w A ckT → 2 ≤ c → RosAt w R 2 1 ckL ckS ck1 ck3 ck1 → Calls Tryz.prog 10 #[.agg #[.string ckN, .slice A (2 : Nat) c], .pointer (some ⟨R, 0, none⟩)] w fun e w' => (∃ B b, e = .returned (.slice B (2 : Nat) b) ∧ NumsAt w' B [-1, 0]) ∧ Below w.heap.size w w'
theorem NumsAt.ints {w : World} {A : Option Addr} {l : List Int} (h : NumsAt w A l) : IntsAt w A l := fun h0 => by
  obtain ⟨ad, e, hc⟩ := h h0
  refine ⟨ad, e, fun i hi => ?_⟩
  rw [hc i _ (List.getElem?_eq_getElem hi), List.getD_eq_getElem?_getD, List.getElem?_eq_getElem hi]
  rfl
theorem ck_cell {W : World} {g : Nat} {cs : Array Value} {t : TypeId} (h : W.heap[g]? = some (.cells cs t (0, 0))) (j : Nat) (v : Value) (hv : cs[j]? = some v) : W.cell? ((⟨g, 0, none⟩ : Addr).add j) = some v := by
  have ha : (⟨g, 0, none⟩ : Addr).add j = ⟨g, j, none⟩ := by unfold Addr.add; split <;> simp_all
  rw [ha]
  simp [World.cell?, h, hv]
theorem ck_nats {W : World} {g : Nat} {l : List Nat} {t : TypeId} (h : W.heap[g]? = some (.cells (l.map fun (n : Nat) => Value.int .i64 (n : Int)).toArray t (0, 0))) : NatsAt W (some ⟨g, 0, none⟩) l := fun _ => ⟨_, rfl, fun i n hi => ck_cell h _ _ (by simp [hi])⟩
theorem ck_nums {W : World} {g : Nat} {l : List Int} {t : TypeId} (h : W.heap[g]? = some (.cells (l.map fun (n : Int) => Value.int .i64 n).toArray t (0, 0))) : NumsAt W (some ⟨g, 0, none⟩) l := fun _ => ⟨_, rfl, fun i n hi => ck_cell h _ _ (by simp [hi])⟩
theorem ck_tks {W : World} {a t : Nat} {T U : TypeId} (ha : W.heap[a]? = some (.cells #[.int .i64 0] U (0, 0)))
    (ht : W.heap[t]? = some (.cells #[.string ⟨#[97]⟩, .slice none 0 0, .int .i64 0, .int .i64 1, .int .i64 0, .int .i64 0, .int .u16 0, .string ⟨#[103]⟩, .slice (some ⟨a, 0, none⟩) 1 1, .int .i64 0, .int .i64 1, .int .i64 1, .int .i64 0, .int .u16 0] T (0, 0))) : TksAt W (some ⟨t, 0, none⟩) ckT := fun _ => ⟨_, rfl, fun i x hi => by
  match i with
  | 0 =>
    obtain rfl := Option.some.inj hi
    exact ⟨none, 0, fun j v hj => ck_cell ht _ _ (by rcases j with _ | _ | _ | _ | _ | _ | _ | j <;> simp [tkC] at hj ⊢ <;> exact hj), fun h => absurd h (Nat.lt_irrefl _), Nat.le_refl _⟩
  | 1 =>
    obtain rfl := Option.some.inj hi
    exact ⟨some ⟨a, 0, none⟩, 1, fun j v hj => ck_cell ht _ _ (by rcases j with _ | _ | _ | _ | _ | _ | _ | j <;> simp [tkC] at hj ⊢ <;> exact hj), ck_nats (l := [0]) ha, Nat.le_refl _⟩
  | i + 2 => simp at hi⟩
theorem ck_labs {W : World} {g : Nat} {t : TypeId} (h : W.heap[g]? = some (.cells #[.int .i64 0, .int .u16 0, .int .i64 3, .int .u16 1] t (0, 0))) : LabsAt W (some ⟨g, 0, none⟩) 2 ckL ckS := fun _ => ⟨_, rfl, fun i hi => by
  have ha : ∀ j, (⟨g, 0, none⟩ : Addr).add j = ⟨g, j, none⟩ := fun j => by unfold Addr.add; split <;> simp_all
  rw [ha]
  rcases i with _ | _ | i
  · simp [World.cell?, h, ckL, ckS]
  · simp [World.cell?, h, ckL, ckS]
  · omega⟩
theorem ck_peps {W : World} {g : Nat} {t : TypeId} (h : W.heap[g]? = some (.cells #[.int .i64 1, .int .i64 3, .int .u16 1] t (0, 0))) : PepsAt W (some ⟨g, 0, none⟩) 1 ck1 ck3 ck1 := fun _ => ⟨_, rfl, fun i hi => by
  have ha : ∀ j, (⟨g, 0, none⟩ : Addr).add j = ⟨g, j, none⟩ := fun j => by unfold Addr.add; split <;> simp_all
  rw [ha]
  obtain rfl : i = 0 := by omega
  simp [World.cell?, h, ck1, ck3]⟩
/-- Where all lies. -/
structure CkSt (X P E R : Nat) (W : World) : Prop where
  tks : TksAt W (some ⟨E, 0, none⟩) ckT
  pip : W.heap[P]? = some (.cells #[.string ⟨#[112]⟩, .slice (some ⟨E, 0, none⟩) 2 2] 24 (0, 0))
  lab : W.heap[X]? = some (.cells #[.int .i64 0, .int .u16 0] 41 (0, 0))
  ros : RosAt W R 2 1 ckL ckS ck1 ck3 ck1
  ve : VarE W
theorem CkSt.later {X P E R : Nat} {W W' : World} (h : CkSt X P E R W) (hb : Below W.heap.size W W') : CkSt X P E R W' := ⟨h.tks.later hb, later_at hb h.pip, later_at hb h.lab, h.ros.later hb, h.ve.later hb⟩
theorem ck_four (w : World) (o1 o2 o3 o4 : Obj) : ((((w.alloc o1).alloc o2).alloc o3).alloc o4).heap[w.heap.size]? = some o1 ∧ ((((w.alloc o1).alloc o2).alloc o3).alloc o4).heap[w.heap.size + 1]? = some o2 ∧ ((((w.alloc o1).alloc o2).alloc o3).alloc o4).heap[w.heap.size + 1 + 1]? = some o3 ∧
    ((((w.alloc o1).alloc o2).alloc o3).alloc o4).heap[w.heap.size + 1 + 1 + 1]? = some o4 ∧ Below w.heap.size w ((((w.alloc o1).alloc o2).alloc o3).alloc o4) := by
  have al : ∀ (v : World) (o : Obj), Below v.heap.size v (v.alloc o) := fun v o => (Below.refl _ _).alloc (Nat.le_refl _) o
  have m1 := made_at w o1
  have m2 := made_at (w.alloc o1) o2
  have m3 := made_at ((w.alloc o1).alloc o2) o3
  have m4 := made_at (((w.alloc o1).alloc o2).alloc o3) o4
  simp only [World.size_alloc] at m2 m3 m4
  exact ⟨later_at (al _ _) (later_at (al _ _) (later_at (al _ _) m1)), later_at (al _ _) (later_at (al _ _) m2), later_at (al _ _) m3, m4, below_step (below_step (below_step (al _ _) (al _ _)) (al _ _)) (al _ _)⟩
theorem ck_three (w : World) (o1 o2 o3 : Obj) : (((w.alloc o1).alloc o2).alloc o3).heap[w.heap.size]? = some o1 ∧ (((w.alloc o1).alloc o2).alloc o3).heap[w.heap.size + 1]? = some o2 ∧ (((w.alloc o1).alloc o2).alloc o3).heap[w.heap.size + 1 + 1]? = some o3 ∧ Below w.heap.size w (((w.alloc o1).alloc o2).alloc o3) := by
  have al : ∀ (v : World) (o : Obj), Below v.heap.size v (v.alloc o) := fun v o => (Below.refl _ _).alloc (Nat.le_refl _) o
  have m1 := made_at w o1
  have m2 := made_at (w.alloc o1) o2
  have m3 := made_at ((w.alloc o1).alloc o2) o3
  simp only [World.size_alloc] at m2 m3
  exact ⟨later_at (al _ _) (later_at (al _ _) m1), later_at (al _ _) m2, m3, below_step (below_step (al _ _) (al _ _)) (al _ _)⟩
set_option maxHeartbeats 4000000 in
set_option maxRecDepth 100000 in
theorem chkawake_of (C : ChkAw) {w : World} (hV : VarE w) : Calls Tryz.prog 5 #[] w fun e w' => e = .returned (.bool true) ∧ Below w.heap.size w w' := by
  have HV := Lib.hid hV
  clear hV
  go_enter Tryz.func5, Tryz.ntmps5
  go_upto_region 2 with fail
  have h4 := ck_four w (.cells #[.int .i64 0, .int .u16 0] 41) (.cells #[.int .i64 3, .int .u16 1] 41) (.cells #[.int .i64 0, .int .u16 0, .int .i64 3, .int .u16 1] 41) (.cells #[.int .i64 1, .int .i64 3, .int .u16 1] 47)
  go_wp2_with fail
  generalize hW1 : ((((w.alloc (.cells #[.int .i64 0, .int .u16 0] 41)).alloc (.cells #[.int .i64 3, .int .u16 1] 41)).alloc (.cells #[.int .i64 0, .int .u16 0, .int .i64 3, .int .u16 1] 41)).alloc (.cells #[.int .i64 1, .int .i64 3, .int .u16 1] 47)) = W1 at *
  clear hW1
  obtain ⟨hx, hy, hl, hp, hb1⟩ := h4
  have hnew := new_is (c := 2) (d := 1) (ck_labs hl) (ck_peps hp) (Nat.le_refl _) (fun e => by cases e) (fun e => by cases e)
  have hf0 : faultV 2 1 ckL ckS ck1 ck3 = 0 := by decide
  refine hnew.mono ?_
  rintro e w2 ⟨hb2, hout⟩
  obtain ⟨R, rfl, hR⟩ : ∃ R, e = .returned (.tuple #[.pointer (some ⟨R, 0, none⟩), .int .i64 0]) ∧ RosAt w2 R 2 1 ckL ckS ck1 ck3 ck1 := by
    rcases hout with ⟨h, _⟩ | ⟨_, h⟩
    · exact absurd hf0 h
    · exact h
  have HX := Lib.hid (later_at hb2 hx)
  have HR := Lib.hid hR
  have HB2 := Lib.hid (below_step hb1 hb2)
  clear hb1 hb2 hx hy hl hp hnew hf0 hout hR
  have x0 := cellH (later_at ((Below.refl _ _).alloc (Nat.le_refl _) (.cells #[.int .i64 0] 3)) HX.out) 0
  have x1 := cellH (later_at ((Below.refl _ _).alloc (Nat.le_refl _) (.cells #[.int .i64 0] 3)) HX.out) 1
  simp at x0 x1
  have h3 := ck_three w2 (.cells #[.int .i64 0] 3) (.cells #[.string ⟨#[97]⟩, .slice none 0 0, .int .i64 0, .int .i64 1, .int .i64 0, .int .i64 0, .int .u16 0, .string ⟨#[103]⟩, .slice (some ⟨w2.heap.size, 0, none⟩) 1 1, .int .i64 0, .int .i64 1, .int .i64 1, .int .i64 0, .int .u16 0] 43) (.cells #[.string ⟨#[112]⟩, .slice (some ⟨w2.heap.size + 1, 0, none⟩) 2 2] 24)
  go_upto_region 4 with fail
  generalize hW3 : (((w2.alloc (.cells #[.int .i64 0] 3)).alloc (.cells #[.string ⟨#[97]⟩, .slice none 0 0, .int .i64 0, .int .i64 1, .int .i64 0, .int .i64 0, .int .u16 0, .string ⟨#[103]⟩, .slice (some ⟨w2.heap.size, 0, none⟩) 1 1, .int .i64 0, .int .i64 1, .int .i64 1, .int .i64 0, .int .u16 0] 43)).alloc (.cells #[.string ⟨#[112]⟩, .slice (some ⟨w2.heap.size + 1, 0, none⟩) 2 2] 24)) = W3 at *
  clear hW3 x0 x1
  obtain ⟨ha, ht, hq, hb3⟩ := h3
  have HS := Lib.hid (show CkSt w.heap.size (w2.heap.size + 1 + 1) (w2.heap.size + 1) R W3 from ⟨ck_tks ha ht, hq, later_at hb3 HX.out, HR.out.later hb3, (HV.out.later HB2.out).later hb3⟩)
  have HB3 := Lib.hid (below_step HB2.out hb3)
  generalize w2.heap.size + 1 + 1 = P at *
  generalize w2.heap.size + 1 = E at *
  clear ha ht hq hb3 HX HR HV HB2
  have x0 := cellH HS.out.pip 0
  have x1 := cellH HS.out.pip 1
  simp at x0 x1
  go_wp2_with fail
  refine (C.fit HS.out.tks (by omega) HS.out.ros).mono ?_
  rintro e w4 ⟨rfl, hb⟩
  have HS4 := Lib.hid (HS.out.later hb)
  have HB4 := Lib.hid (HB3.out.trans (hb.mono HB3.out.size))
  clear hb x0 x1 HS HB3
  have x0 := cellH HS4.out.pip 0
  have x1 := cellH HS4.out.pip 1
  simp at x0 x1
  go_wp2_with fail
  refine (C.low HS4.out.tks (by omega) HS4.out.ros).mono ?_
  rintro e w5 ⟨⟨F1, rfl, hF1⟩, hb⟩
  have HS5 := Lib.hid (HS4.out.later hb)
  have HB5 := Lib.hid (HB4.out.trans (hb.mono HB4.out.size))
  have HF1 := Lib.hid hF1
  clear hb x0 x1 HS4 HB4 hF1
  have x0 := cellH HS5.out.pip 0
  have x1 := cellH HS5.out.pip 1
  simp at x0 x1
  go_wp2_with fail
  refine (C.none_ HS5.out.tks (by omega) HS5.out.ros).mono ?_
  rintro e w6 ⟨⟨F2, rfl, hF2⟩, hb⟩
  have HS6 := Lib.hid (HS5.out.later hb)
  have HB6 := Lib.hid (HB5.out.trans (hb.mono HB5.out.size))
  have HF12 := Lib.hid (HF1.out.later hb)
  have HF2 := Lib.hid hF2
  clear hb x0 x1 HS5 HB5 hF2 HF1
  have x0 := cellH HS6.out.lab 0
  have x1 := cellH HS6.out.lab 1
  simp at x0 x1
  go_wp2_with fail
  refine (C.voters HS6.out.ros).mono ?_
  rintro e w7 ⟨⟨V, vb, rfl, hv⟩, hb⟩
  have HS7 := Lib.hid (HS6.out.later hb)
  have HB7 := Lib.hid (HB6.out.trans (hb.mono HB6.out.size))
  have HF1 := Lib.hid (HF12.out.later hb)
  have HF3 := Lib.hid (HF2.out.later hb)
  have HVV := Lib.hid hv
  clear hb x0 x1 HS6 HB6 hv HF12 HF2
  have x0 := cellH HS7.out.pip 0
  have x1 := cellH HS7.out.pip 1
  simp at x0 x1
  go_wp2_with fail
  refine (C.targets HS7.out.tks (by omega) HS7.out.ros).mono ?_
  rintro e w8 ⟨⟨T, tb, rfl, ht⟩, hb⟩
  have HS8 := Lib.hid (HS7.out.later hb)
  have HB8 := Lib.hid (HB7.out.trans (hb.mono HB7.out.size))
  have HW1 := Lib.hid (wrong_is (fun hV h => at_is hV h) HS8.out.ve (HF1.out.later hb) 9 1)
  have HF2 := Lib.hid (HF3.out.later hb)
  have HVV8 := Lib.hid (HVV.out.later hb)
  have HTT := Lib.hid ht
  clear hb x0 x1 HS7 HB7 ht HF1 HF3 HVV
  unfold fltV at HW1
  unfold fltV
  go_wp2_with fail
  refine HW1.out.mono ?_
  rintro e w9 ⟨rfl, hb⟩
  have HS9 := Lib.hid (HS8.out.later hb)
  have HB9 := Lib.hid (HB8.out.trans (hb.mono HB8.out.size))
  have HW2 := Lib.hid (wrong_is (fun hV h => at_is hV h) HS9.out.ve (HF2.out.later hb) 1 (-1))
  have HVV9 := Lib.hid (HVV8.out.later hb)
  have HTT9 := Lib.hid (HTT.out.later hb)
  unfold fltV at HW2
  clear hb HS8 HB8 HW1 HF2 HVV8 HTT
  go_wp2_with fail
  refine HW2.out.mono ?_
  rintro e w10 ⟨rfl, hb⟩
  have HB10 := Lib.hid (HB9.out.trans (hb.mono HB9.out.size))
  have HVV := Lib.hid (HVV9.out.later hb)
  have HTT := Lib.hid (HTT9.out.later hb)
  clear hb HS9 HB9 HW2 HVV9 HTT9
  have hal := (Below.refl _ _).alloc (Nat.le_refl w10.heap.size) (.cells #[.int .i64 0] 3)
  have HSM := Lib.hid (samen_is (l := [0]) (c := vb) (d := 1) (HVV.out.later hal) (ck_nats (l := [0]) (made_at w10 (.cells #[.int .i64 0] 3))) (by decide))
  go_wp2_with fail
  refine HSM.out.mono ?_
  rintro e w11 ⟨rfl, hb⟩
  have HB11 := Lib.hid (HB10.out.trans ((below_step hal hb).mono HB10.out.size))
  have HTT2 := Lib.hid (HTT.out.later (below_step hal hb))
  clear hb hal HSM HTT HB10 HVV
  have hal := (Below.refl _ _).alloc (Nat.le_refl w11.heap.size) (.cells #[.int .i64 (-1), .int .i64 0] 3)
  have HSM := Lib.hid (same_is (zs := [-1, 0]) (c := tb) (d := 2) (HTT2.out.later hal).ints (ck_nums (l := [-1, 0]) (made_at w11 (.cells #[.int .i64 (-1), .int .i64 0] 3))).ints (by decide))
  have HAL := Lib.hid hal
  clear hal
  go_wp2_with fail
  refine HSM.out.mono ?_
  rintro e w12 ⟨rfl, hb⟩
  have HB12 := Lib.hid (HB11.out.trans ((below_step HAL.out hb).mono HB11.out.size))
  clear hb
  go_wp2_with fail
  go_ret
  exact ⟨by first | rfl | simp, HB12.out⟩
end Go.Proofs.YtcddbpdebklhnaaGreatDoor
