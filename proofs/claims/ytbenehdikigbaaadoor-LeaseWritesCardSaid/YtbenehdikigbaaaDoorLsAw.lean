/-
  The first line of layer 11's laws, over the bundle. No conditions.
-/
import Derived.Test.YtbenehdikigbaaaDoorLsA
namespace Go.Proofs.YtbenehdikigbaaaDoor
open Go.RowKit

/-- What is held: tries in blocks. -/
def TrS (w0 : World) (L : List (Nat × TrP)) (W : World) : Prop := (∀ x ∈ L, W.heap[x.1]? = some (.cells (tryA x.2) 23 (0, 0))) ∧ Below w0.heap.size w0 W
theorem TrS.keep {w0 : World} {L : List (Nat × TrP)} : ∀ v v', TrS w0 L v → Below v.heap.size v v' → TrS w0 L v' := fun _ _ h hb => ⟨fun x hx => later_at hb (h.1 x hx), below_step h.2 hb⟩
theorem TrS.cells {w0 W : World} {L : List (Nat × TrP)} (h : TrS w0 L W) (i : Nat) {g : Nat} {t : TrP} (hm : L[i]? = some (g, t)) :
    W.cell? ⟨g, 0, none⟩ = some (.int .i64 t.st) ∧ W.cell? ⟨g, 1, none⟩ = some (.int .i64 t.sn) ∧ W.cell? ⟨g, 2, none⟩ = some (.int .i64 t.ms) ∧ W.cell? ⟨g, 3, none⟩ = some (.int .i64 t.wk) ∧ W.cell? ⟨g, 4, none⟩ = some (.int .i64 t.ls) ∧ W.cell? ⟨g, 5, none⟩ = some (.int .i64 t.un) := by
  have h1 := h.1 _ (List.mem_of_getElem? hm)
  exact ⟨by rw [cellH h1]; rfl, by rw [cellH h1]; rfl, by rw [cellH h1]; rfl, by rw [cellH h1]; rfl, by rw [cellH h1]; rfl, by rw [cellH h1]; rfl⟩
theorem tr_at {W : World} {g : Nat} {t : TrP} (h1 : W.heap[g]? = some (.cells (tryA t) 23 (0, 0))) :
    W.cell? ⟨g, 0, none⟩ = some (.int .i64 t.st) ∧ W.cell? ⟨g, 1, none⟩ = some (.int .i64 t.sn) ∧ W.cell? ⟨g, 2, none⟩ = some (.int .i64 t.ms) ∧ W.cell? ⟨g, 3, none⟩ = some (.int .i64 t.wk) ∧ W.cell? ⟨g, 4, none⟩ = some (.int .i64 t.ls) ∧ W.cell? ⟨g, 5, none⟩ = some (.int .i64 t.un) :=
  ⟨by rw [cellH h1]; rfl, by rw [cellH h1]; rfl, by rw [cellH h1]; rfl, by rw [cellH h1]; rfl, by rw [cellH h1]; rfl, by rw [cellH h1]; rfl⟩
theorem sm_lit {n : Int} (h : smB n = true) : smI n := smB_iff.1 h
abbrev lsA : TrP := ⟨1, 3, 0, 0, 0, 0⟩
abbrev lsH : TrP := ⟨2, 0, 0, 1, 7, 8⟩
abbrev lsS : TrP := ⟨1, 9, 1, 0, 0, 0⟩
/-- What the program's lease answers in awake. -/
structure LsAw : Prop where
  open_ : ∀ W : World, Calls Tryd.prog 14 #[.agg #[.int .i64 0, .int .i64 0, .int .i64 0, .int .i64 0, .int .i64 0, .int .i64 0], .int .i64 3] W fun e w' => e = .returned (.agg #[.int .i64 1, .int .i64 3, .int .i64 0, .int .i64 0, .int .i64 0, .int .i64 0]) ∧ Below W.heap.size W w'
  take : ∀ W : World, Calls Tryd.prog 15 #[.agg #[.int .i64 1, .int .i64 3, .int .i64 0, .int .i64 0, .int .i64 0, .int .i64 0], .int .i64 3, .int .i64 1, .int .i64 7, .int .i64 5] W fun e w' => e = .returned (.tuple #[.agg #[.int .i64 2, .int .i64 0, .int .i64 0, .int .i64 1, .int .i64 7, .int .i64 8], .int .i64 0]) ∧ Below W.heap.size W w'
  no : ∀ W : World, Calls Tryd.prog 15 #[.agg #[.int .i64 1, .int .i64 3, .int .i64 0, .int .i64 0, .int .i64 0, .int .i64 0], .int .i64 2, .int .i64 1, .int .i64 7, .int .i64 5] W fun e w' => e = .returned (.tuple #[.agg #[.int .i64 0, .int .i64 0, .int .i64 0, .int .i64 0, .int .i64 0, .int .i64 0], .int .i64 12]) ∧ Below W.heap.size W w'
  late : ∀ W : World, Calls Tryd.prog 16 #[.agg #[.int .i64 2, .int .i64 0, .int .i64 0, .int .i64 1, .int .i64 7, .int .i64 8], .int .i64 8, .int .i64 1] W fun e w' => e = .returned (.agg #[.int .i64 1, .int .i64 9, .int .i64 1, .int .i64 0, .int .i64 0, .int .i64 0]) ∧ Below W.heap.size W w'
  soon : ∀ W : World, Calls Tryd.prog 16 #[.agg #[.int .i64 2, .int .i64 0, .int .i64 0, .int .i64 1, .int .i64 7, .int .i64 8], .int .i64 7, .int .i64 1] W fun e w' => e = .returned (.agg #[.int .i64 2, .int .i64 0, .int .i64 0, .int .i64 1, .int .i64 7, .int .i64 8]) ∧ Below W.heap.size W w'
  miss : ∀ W : World, Calls Tryd.prog 17 #[.agg #[.int .i64 2, .int .i64 0, .int .i64 0, .int .i64 1, .int .i64 7, .int .i64 8], .int .i64 4, .int .i64 0] W fun e w' => e = .returned (.agg #[.int .i64 4, .int .i64 0, .int .i64 1, .int .i64 0, .int .i64 0, .int .i64 0]) ∧ Below W.heap.size W w'
  holds : ∀ (W : World) (now : Int), Calls Tryd.prog 18 #[.agg #[.int .i64 2, .int .i64 0, .int .i64 0, .int .i64 1, .int .i64 7, .int .i64 8], .int .i64 now, .int .i64 1, .int .i64 7] W fun e w' => e = .returned (.bool (decide (now < 8))) ∧ Below W.heap.size W w'
  beat : ∀ W : World, Calls Tryd.prog 19 #[.agg #[.int .i64 2, .int .i64 0, .int .i64 0, .int .i64 1, .int .i64 7, .int .i64 8], .int .i64 6, .int .i64 5] W fun e w' => e = .returned (.agg #[.int .i64 2, .int .i64 0, .int .i64 0, .int .i64 1, .int .i64 7, .int .i64 11]) ∧ Below W.heap.size W w'
  done : ∀ W : World, Calls Tryd.prog 20 #[.agg #[.int .i64 2, .int .i64 0, .int .i64 0, .int .i64 1, .int .i64 7, .int .i64 8]] W fun e w' => e = .returned (.agg #[.int .i64 3, .int .i64 0, .int .i64 0, .int .i64 0, .int .i64 0, .int .i64 0]) ∧ Below W.heap.size W w'
  right : ∀ W : World, Calls Tryd.prog 21 #[.agg #[.int .i64 2, .int .i64 0, .int .i64 0, .int .i64 1, .int .i64 7, .int .i64 8]] W fun e w' => e = .returned (.bool true) ∧ Below W.heap.size W w'
theorem LeaseOk.aw (C : LeaseOk) : LsAw where
  open_ := fun W => C.open_ noTr 3 (tryL_small (by decide)) (sm_lit (by decide))
  take := fun W => C.take lsA 3 1 7 5 (tryL_small (by decide)) (sm_lit (by decide)) (sm_lit (by decide))
  no := fun W => C.take lsA 2 1 7 5 (tryL_small (by decide)) (sm_lit (by decide)) (sm_lit (by decide))
  late := fun W => C.settle lsH 8 1 (tryL_small (by decide)) (sm_lit (by decide)) (sm_lit (by decide))
  soon := fun W => C.settle lsH 7 1 (tryL_small (by decide)) (sm_lit (by decide)) (sm_lit (by decide))
  miss := fun W => C.miss lsH 4 0 (tryL_small (by decide)) (sm_lit (by decide)) (sm_lit (by decide))
  holds := fun W now => C.holds lsH now 1 7
  beat := fun W => C.beat lsH 6 5 (tryL_small (by decide)) (sm_lit (by decide)) (sm_lit (by decide))
  done := fun W => C.done lsH
  right := fun W => C.right lsH
set_option maxHeartbeats 8000000 in
set_option maxRecDepth 100000 in
theorem lsawake_true (C : LeaseOk) (w : World) : Calls Tryd.prog 4 #[] w fun e w' => e = .returned (.bool true) ∧ Below w.heap.size w w' := by
  have HC := Lib.hid C.aw
  clear C
  go_enter Tryd.func4, Tryd.ntmps4
  go_wp2_with fail
  refine (HC.out.open_ _).mono ?_
  rintro e w1 ⟨rfl, hb1⟩
  have M1 := Lib.hid (made_at w1 (.cells (tryA lsA) 23))
  have HB1 := Lib.hid (hb1.alloc hb1.size (.cells (tryA lsA) 23))
  clear hb1
  go_upto_region 2 with fail
  generalize hW1 : (w1.alloc (.cells #[.int .i64 1, .int .i64 3, .int .i64 0, .int .i64 0, .int .i64 0, .int .i64 0] 23)) = W1 at *
  clear hW1
  generalize hg1 : w1.heap.size = g1 at *
  clear hg1
  obtain ⟨x0, x1, x2, x3, x4, x5⟩ := tr_at M1.out
  go_wp2_with fail
  refine (HC.out.take _).mono ?_
  rintro e w2 ⟨rfl, hb2⟩
  have M2 := Lib.hid (made_at w2 (.cells (tryA lsH) 23))
  have hal := hb2.alloc hb2.size (.cells (tryA lsH) 23)
  have N1 := Lib.hid (later_at hal M1.out)
  have HB2 := Lib.hid (below_step HB1.out hal)
  clear hb2 hal x0 x1 x2 x3 x4 x5 M1 HB1
  go_upto_region 3 with fail
  generalize hW2 : (w2.alloc (.cells #[.int .i64 2, .int .i64 0, .int .i64 0, .int .i64 1, .int .i64 7, .int .i64 8] 23)) = W2 at *
  clear hW2
  generalize hg2 : w2.heap.size = g2 at *
  clear hg2
  obtain ⟨x0, x1, x2, x3, x4, x5⟩ := tr_at N1.out
  go_wp2_with fail
  refine (HC.out.no _).mono ?_
  rintro e w3 ⟨rfl, hb3⟩
  have hal := hb3.alloc hb3.size (.cells (tryA noTr) 23)
  have K1 := Lib.hid (later_at hal N1.out)
  have K2 := Lib.hid (later_at hal M2.out)
  have HB3 := Lib.hid (below_step HB2.out hal)
  clear hb3 hal x0 x1 x2 x3 x4 x5 N1 M2 HB2
  go_upto_region 4 with fail
  generalize hW3 : (w3.alloc (.cells #[.int .i64 0, .int .i64 0, .int .i64 0, .int .i64 0, .int .i64 0, .int .i64 0] 23)) = W3 at *
  clear hW3
  generalize hg3 : w3.heap.size = g3 at *
  clear hg3
  obtain ⟨x0, x1, x2, x3, x4, x5⟩ := tr_at K2.out
  go_wp2_with fail
  refine (HC.out.late _).mono ?_
  rintro e w4 ⟨rfl, hb4⟩
  have M6 := Lib.hid (made_at w4 (.cells (tryA lsS) 23))
  have hal := hb4.alloc hb4.size (.cells (tryA lsS) 23)
  have L1 := Lib.hid (later_at hal K1.out)
  have L2 := Lib.hid (later_at hal K2.out)
  have HB4 := Lib.hid (below_step HB3.out hal)
  clear hb4 hal x0 x1 x2 x3 x4 x5 K1 K2 HB3
  go_upto_region 5 with fail
  generalize hW4 : (w4.alloc (.cells #[.int .i64 1, .int .i64 9, .int .i64 1, .int .i64 0, .int .i64 0, .int .i64 0] 23)) = W4 at *
  clear hW4
  generalize hg4 : w4.heap.size = g4 at *
  clear hg4
  have HS0 := Lib.hid (show TrS w [(g1, lsA), (g2, lsH), (g4, lsS)] W4.drew from ⟨fun x hx => by
    simp only [List.mem_cons, List.not_mem_nil, or_false] at hx
    rcases hx with rfl | rfl | rfl
    · exact L1.out
    · exact L2.out
    · exact M6.out, HB4.out.drew⟩)
  obtain ⟨S, hS, hSk, hSe, hA, hH, hQ⟩ : ∃ S : World → Prop, S W4.drew ∧ (∀ v v', S v → Below v.heap.size v v' → S v') ∧ (∀ v, S v → Below w.heap.size w v) ∧
      (∀ x : HeldW S, x.w.cell? ⟨g1, 0, none⟩ = some (.int .i64 1) ∧ x.w.cell? ⟨g1, 1, none⟩ = some (.int .i64 3) ∧ x.w.cell? ⟨g1, 2, none⟩ = some (.int .i64 0) ∧ x.w.cell? ⟨g1, 3, none⟩ = some (.int .i64 0) ∧ x.w.cell? ⟨g1, 4, none⟩ = some (.int .i64 0) ∧ x.w.cell? ⟨g1, 5, none⟩ = some (.int .i64 0)) ∧
      (∀ x : HeldW S, x.w.cell? ⟨g2, 0, none⟩ = some (.int .i64 2) ∧ x.w.cell? ⟨g2, 1, none⟩ = some (.int .i64 0) ∧ x.w.cell? ⟨g2, 2, none⟩ = some (.int .i64 0) ∧ x.w.cell? ⟨g2, 3, none⟩ = some (.int .i64 1) ∧ x.w.cell? ⟨g2, 4, none⟩ = some (.int .i64 7) ∧ x.w.cell? ⟨g2, 5, none⟩ = some (.int .i64 8)) ∧
      (∀ x : HeldW S, x.w.cell? ⟨g4, 0, none⟩ = some (.int .i64 1) ∧ x.w.cell? ⟨g4, 1, none⟩ = some (.int .i64 9) ∧ x.w.cell? ⟨g4, 2, none⟩ = some (.int .i64 1) ∧ x.w.cell? ⟨g4, 3, none⟩ = some (.int .i64 0) ∧ x.w.cell? ⟨g4, 4, none⟩ = some (.int .i64 0) ∧ x.w.cell? ⟨g4, 5, none⟩ = some (.int .i64 0)) :=
    ⟨_, HS0.out, TrS.keep, fun v h => h.2, fun x => x.ok.cells 0 rfl, fun x => x.ok.cells 1 rfl, fun x => x.ok.cells 2 rfl⟩
  have HS := Lib.hid hS
  have HSK := Lib.hid hSk
  have HSE := Lib.hid hSe
  have e1 : eq6 1 3 0 0 0 0 1 3 0 0 0 0 = true := rfl
  have e2 : eq6 2 0 0 1 7 8 2 0 0 1 7 8 = true := rfl
  have e3 : eq6 1 9 1 0 0 0 1 9 1 0 0 0 = true := rfl
  have e4 : eq6 3 0 0 0 0 0 3 0 0 0 0 0 = true := rfl
  have d1 : ∀ W : World, (Instr.field 23 (.agg #[.int .i64 4, .int .i64 0, .int .i64 1, .int .i64 0, .int .i64 0, .int .i64 0]) 0).run Tryd.prog W = .ok (.int .i64 4) W := fun _ => by kernel_rfl
  have d2 : ∀ W : World, (Instr.field 23 (.agg #[.int .i64 2, .int .i64 0, .int .i64 0, .int .i64 1, .int .i64 7, .int .i64 11]) 5).run Tryd.prog W = .ok (.int .i64 11) W := fun _ => by kernel_rfl
  clear hS hSk hSe HS0 L1 L2 M6 HB4
  have a0 := fun x => (hA x).1
  have a1 := fun x => (hA x).2.1
  have a2 := fun x => (hA x).2.2.1
  have a3 := fun x => (hA x).2.2.2.1
  have a4 := fun x => (hA x).2.2.2.2.1
  have a5 := fun x => (hA x).2.2.2.2.2
  have h0 := fun x => (hH x).1
  have h1 := fun x => (hH x).2.1
  have h2 := fun x => (hH x).2.2.1
  have h3 := fun x => (hH x).2.2.2.1
  have h4 := fun x => (hH x).2.2.2.2.1
  have h5 := fun x => (hH x).2.2.2.2.2
  have q0 := fun x => (hQ x).1
  have q1 := fun x => (hQ x).2.1
  have q2 := fun x => (hQ x).2.2.1
  have q3 := fun x => (hQ x).2.2.2.1
  have q4 := fun x => (hQ x).2.2.2.2.1
  have q5 := fun x => (hQ x).2.2.2.2.2
  clear hA hH hQ
  refine wp_region_kept S (by kernel_rfl) (by kernel_rfl) HS.out ?_
  intro hne
  repeat (go_big_quiet_step (first | exact rfl | (go_at_call 16; refine kept_of HSK.out (HC.out.soon _)) | (go_at_call 17; refine kept_of HSK.out (HC.out.miss _)) | (go_at_call 18; refine kept_of HSK.out (HC.out.holds _ _)) | (go_at_call 19; refine kept_of HSK.out (HC.out.beat _)) | (go_at_call 20; refine kept_of HSK.out (HC.out.done _)) | (go_at_call 21; refine kept_of HSK.out (HC.out.right _))))
  refine wpQuiet_nil ?_
  rintro w9 ⟨⟨_, hq9⟩, rfl⟩
  clear a0 a1 a2 a3 a4 a5 h0 h1 h2 h3 h4 h5 q0 q1 q2 q3 q4 q5 hne
  have HB9 := Lib.hid (HSE.out _ hq9)
  clear hq9
  go_wp2_with fail
  go_ret
  exact ⟨by first | rfl | simp, HB9.out⟩
end Go.Proofs.YtbenehdikigbaaaDoor
