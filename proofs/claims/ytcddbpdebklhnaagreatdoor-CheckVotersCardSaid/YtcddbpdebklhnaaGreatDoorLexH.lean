/-
  The program's At, of a Fault and of none; with a function put off that recovers. Conditions: what the library's variable errors.errorType holds.
-/
import Derived.Test.YtcddbpdebklhnaaGreatDoorLexE
import Derived.Defers
import Derived.Recover
namespace Go.Proofs.YtcddbpdebklhnaaGreatDoor
open Go.RowKit Go.Extern.Stop Go.Stop Go.Extern

theorem at_idle (a : Value) (w : World) : CallsD Tryz.prog 53 #[a] .returning w fun e u' w' => e = .returned (.tuple #[]) ∧ u' = .returning ∧ w' = w := by
  refine callsD_of_wpS Tryz.func53 rfl fun c₀ cs hu => ?_
  apply wpS_seq
  apply wpS_region
  simp [wpOpsS, go_sem, recoverD, hu, Tryz.ntmps53, Exit.thenS]
  refine wpS_cond (t := false) (by simp [Act.eval, Array.replicate]) ?_
  simp only [Bool.false_eq_true, if_false]
  refine wpS_of_wp (wp_skip ?_)
  cases c₀
  simp_all [bodyPostS, results, Tryz.results53]

section
variable {w : World} {F : Nat} {a e : Int}
theorem at_res {tmps : Array Value} {W : World} {B : Nat} {x : Int} (ht : tmps.getD 2 undef = .pointer (some ⟨B, 0, none⟩)) (h1 : W.heap[B]? = some (.cells #[.int .i64 x] 3 (0, 0))) : (results Tryz.f34 tmps).run Tryz.prog W = .ok (.int .i64 x) W := by
  have y1 := cellH h1 0
  simp at y1 ht
  simp [results, Tryz.results34, go_sem, ht, y1]
set_option maxHeartbeats 1000000 in
set_option maxRecDepth 100000 in
theorem at_none : Calls Tryz.prog 34 #[.nilIface] w fun x w' => x = .returned (.int .i64 (-1)) ∧ Below w.heap.size w w' := by
  have HN := Lib.hid (fun (t : Value) (w : World) => as_nil t w)
  have hmf : ∀ (fn : Fn) (first cap : Array Value) (w : World), (Instr.makeFunc fn first cap).run Tryz.prog w = .ok (.func fn first cap) w := fun _ _ _ _ => rfl
  have b : ∀ (v : World) (o : Obj), Below v.heap.size v (v.alloc o) := fun v o => (Below.refl _ _).alloc (Nat.le_refl _) o
  have M := Lib.hid (later_at (b _ (.cells #[.pointer none] 79)) (made_at w (.cells #[.int .i64 (-1)] 3)))
  have HB := Lib.hid (below_step (b w (.cells #[.int .i64 (-1)] 3)) (b _ (.cells #[.pointer none] 79)))
  go_enter_defers Tryz.func34, Tryz.ntmps34
  go_wp2_with fail
  refine (HN.out _ _).mono ?_
  rintro r w1 ⟨rfl, rfl⟩
  go_wp2_with fail
  refine leaves_cons (f := 53) (args := #[.pointer (some ⟨w.heap.size, 0, none⟩)]) (by simp) (by simp [go_sem]) ?_
  refine (at_idle _ _).mono ?_
  rintro e u' w'' ⟨rfl, rfl, rfl⟩
  show Leaves _ _ _ _ [] .returning _
  exact ⟨_, at_res (x := -1) rfl M.out, rfl, HB.out⟩
set_option maxHeartbeats 1000000 in
set_option maxRecDepth 100000 in
theorem at_is (hV : VarE w) (h : FaultAt w F a e) : Calls Tryz.prog 34 #[fltV F] w fun x w' => x = .returned (.int .i64 a) ∧ Below w.heap.size w w' := by
  have hmf : ∀ (fn : Fn) (first cap : Array Value) (w : World), (Instr.makeFunc fn first cap).run Tryz.prog w = .ok (.func fn first cap) w := fun _ _ _ _ => rfl
  have b : ∀ (v : World) (o : Obj), Below v.heap.size v (v.alloc o) := fun v o => (Below.refl _ _).alloc (Nat.le_refl _) o
  have hb0 := below_step (b w (.cells #[.int .i64 0] 3)) (b _ (.cells #[.pointer none] 79))
  have hm := later_at (b _ (.cells #[.pointer none] 79)) (made_at w (.cells #[.int .i64 0] 3))
  have hz := made_at (w.alloc (.cells #[.int .i64 0] 3)) (.cells #[.pointer none] 79)
  rw [World.size_alloc] at hz
  obtain ⟨W0, hW0⟩ : ∃ W0, (w.alloc (.cells #[.int .i64 0] 3)).alloc (.cells #[.pointer none] 79) = W0 := ⟨_, rfl⟩
  rw [hW0] at hb0 hm hz
  have HA := Lib.hid (as_hit ⟨F, 0, none⟩ ⟨w.heap.size + 1, 0, none⟩ (.pointer none) W0 (hV.later hb0) (cellH hz 0) (freeH hz 0))
  have HF := Lib.hid (h.later hb0)
  have HM := Lib.hid hm
  have HZ := Lib.hid hz
  have HB := Lib.hid hb0
  have hlow := h.low
  clear h hV hb0 hm hz
  unfold fltV
  go_enter_defers Tryz.func34, Tryz.ntmps34
  go_wp2_with fail
  clear hW0
  refine HA.out.mono ?_
  rintro r w1 ⟨rfl, hw⟩
  obtain ⟨W1, hW1⟩ : ∃ W1, (((W0.alloc (.cells #[.pointer (some ⟨w.heap.size + 1, 0, none⟩)] 91)).alloc (.cells #[.pointer (some ⟨1, 91, none⟩), .pointer (some ⟨W0.heap.size, 0, none⟩), .int .u64 150] 116)).alloc (.cells #[.pointer (some ⟨1, 91, none⟩), .pointer (some ⟨W0.heap.size, 0, none⟩), .int .u64 150] 116)).alloc (.cells #[.pointer (some ⟨F, 0, none⟩)] 79) = W1 := ⟨_, rfl⟩
  have hb1 : Below W0.heap.size W0 W1 := by rw [← hW1]; exact below_step (below_step (below_step (b _ _) (b _ _)) (b _ _)) (b _ _)
  rw [hW1] at hw
  subst hw
  clear hW1
  have st : ∀ (C : World) (u : Value) (q : Nat), q ≠ w.heap.size + 1 → (C.setCell ⟨w.heap.size + 1, 0, none⟩ u).heap[q]? = C.heap[q]? := fun C u q h => Below.heap_setCell C ⟨w.heap.size + 1, 0, none⟩ u q h
  have g1 := row_set (i := 0) (v := .pointer (some ⟨F, 0, none⟩)) (later_at hb1 HZ.out)
  have g2 := (st W1 (.pointer (some ⟨F, 0, none⟩)) w.heap.size (by omega)).trans (later_at hb1 HM.out)
  have g3 := (st W1 (.pointer (some ⟨F, 0, none⟩)) F (by omega)).trans (HF.out.later hb1)
  have hb2 := (below_step HB.out hb1).setCell (p := ⟨w.heap.size + 1, 0, none⟩) (by show w.heap.size ≤ w.heap.size + 1; omega) (.pointer (some ⟨F, 0, none⟩))
  generalize W1.setCell ⟨w.heap.size + 1, 0, none⟩ (.pointer (some ⟨F, 0, none⟩)) = W2 at g1 g2 g3 hb2 ⊢
  have x0 := cellH g1 0
  have x1 := cellH g2 0
  have x2 := freeH g2 0
  have x3 := cellH g3 0
  simp at x0 x1 x3
  have G2 := Lib.hid g2
  have HB2 := Lib.hid hb2
  clear hb1 st g1 g2 g3 hb2 HA HF HM HZ HB
  go_wp2_with fail
  refine leaves_cons (f := 53) (args := #[.pointer (some ⟨w.heap.size, 0, none⟩)]) (by simp) (by simp [go_sem]) ?_
  refine (at_idle _ _).mono ?_
  rintro e u' w'' ⟨rfl, rfl, rfl⟩
  show Leaves _ _ _ _ [] .returning _
  exact ⟨_, at_res (x := a) rfl ((row_set G2.out).trans (by simp)), rfl, HB2.out.setCell (p := ⟨w.heap.size, 0, none⟩) (Nat.le_refl _) _⟩
end
end Go.Proofs.YtcddbpdebklhnaaGreatDoor
