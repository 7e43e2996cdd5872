/-
  The program's Label and At. Conditions: what the library's variables hold.
-/
import Derived.Test.YtcfnmjhelhdobaaGreatDoorLexN
import Derived.Test.YtcfnmjhelhdobaaGreatDoorLabelG
import Derived.RecoverIn
namespace Go.Proofs.YtcfnmjhelhdobaaGreatDoor
open Go.RowKit Go.Shelf Go.Extern.Stop Go.Stop Go.Extern

theorem info_lab : (Tryz.prog.info? 45).map (·.size) = some 2 := by kernel_rfl
theorem cell_tmp {tmps : Array Value} {W : World} {B : Nat} {x y : Value} (ht : tmps.getD 2 undef = .pointer (some ⟨B, 0, none⟩)) (h1 : W.heap[B]? = some (.cells #[x, y] 45 (0, 0))) :
    (results Tryz.f93 tmps).run Tryz.prog W = .ok (.tuple #[.agg #[x, y], tmps.getD 3 undef]) W := by
  have y1 := cellH h1 0
  have y2 := cellH h1 1
  simp at y1 y2 ht
  simp [results, Tryz.results93, go_sem, ht, y1, y2]

set_option maxHeartbeats 2000000 in
set_option maxRecDepth 100000 in
theorem label_is (w : World) (t : ByteArray) (p : Int) (r : Option (Int × Int)) (hr : r = labP t) : Calls Tryz.prog 93 #[wdV t p] w (OneOut w (r.map fun x => .agg #[.int .i64 x.1, .int .u16 x.2]) (.agg #[.int .i64 0, .int .u16 0]) 3 p) := by
  have a : ∀ (v : World) (o : Obj), Below v.heap.size v (v.alloc o) := fun v o => (Below.refl _ _).alloc (Nat.le_refl _) o
  have HF := Lib.hid (fun A : World => fault_is A p 3)
  have m1 := later_at (a _ (.cells #[.int .i64 0, .int .u16 0] 45)) (made_at w (.cells #[.string t, .int .i64 p] 81))
  have m2 := made_at (w.alloc (.cells #[.string t, .int .i64 p] 81)) (.cells #[.int .i64 0, .int .u16 0] 45)
  rw [World.size_alloc] at m2
  have HB0 := Lib.hid (below_step (a w (.cells #[.string t, .int .i64 p] 81)) (a _ (.cells #[.int .i64 0, .int .u16 0] 45)))
  have M1 := Lib.hid m1
  have M2 := Lib.hid m2
  clear m1 m2
  by_cases hg : GoodText t
  · have HR := Lib.hid (hr.trans (if_pos hg))
    obtain ⟨l, hl⟩ : ∃ l, l = hexI (byteN t 0) := ⟨_, rfl⟩
    obtain ⟨u, hu⟩ : ∃ u, u = setV t 4 := ⟨_, rfl⟩
    rw [← hl, ← hu] at HR
    have HP := Lib.hid (fun A : World => parse_good t l u hg hl.symm hu.symm A)
    clear hr hg hl hu
    go_enter Tryz.func93, Tryz.ntmps93
    go_wp2_with fail
    refine (HP.out _).mono ?_
    rintro e w1 ⟨rfl, hb⟩
    have n2 := later_at hb M2.out
    have HB1 := Lib.hid (below_step HB0.out hb)
    have ha := a w1 (.cells #[.int .i64 l, .int .u16 u] 45)
    have n2' := later_at ha n2
    have z0 := cellH n2' 0
    have z1 := cellH n2' 1
    have f0 := freeH n2' 0
    have f1 := freeH n2' 1
    simp at z0 z1
    have hne : w1.heap.size ≠ w.heap.size + 1 := fun e => by have := (Array.getElem?_eq_some_iff.1 n2).1; omega
    have HB2 := Lib.hid (below_step HB1.out ha)
    have N2 := Lib.hid n2'
    clear n2 n2' hb ha
    go_wp2_with fail
    refine bodyPost_ret (cell_tmp (x := .int .i64 l) (y := .int .u16 u) rfl ((row_set (row_set N2.out)).trans (by simp))) rfl ⟨(HB2.out.setCell (p := ⟨w.heap.size + 1, 0, none⟩) (by show w.heap.size ≤ w.heap.size + 1; omega) _).setCell (p := ⟨w.heap.size + 1, 1, none⟩) (by show w.heap.size ≤ w.heap.size + 1; omega) _, ?_⟩
    rw [HR.out]
    rfl
  · have HR := Lib.hid (hr.trans (if_neg hg))
    have HP := Lib.hid (fun A : World => parse_bad t hg A)
    clear hr hg
    go_enter Tryz.func93, Tryz.ntmps93
    go_wp2_with fail
    refine (HP.out _).mono ?_
    rintro e w1 ⟨rfl, hb⟩
    have n1 := later_at hb M1.out
    have n2 := later_at hb M2.out
    have hw1 := (Array.getElem?_eq_some_iff.1 n2).1
    have HB1 := Lib.hid (below_step HB0.out hb)
    have ha := a w1 (.cells #[.int .i64 0, .int .u16 0] 45)
    have n1' := later_at ha n1
    have n2' := later_at ha n2
    have y1 := cellH n1' 1
    simp at y1
    have HB2 := Lib.hid (below_step HB1.out ha)
    have N2 := Lib.hid n2'
    clear n1 n2 n1' n2' hb ha
    go_wp2_with fail
    refine (HF.out _).mono ?_
    rintro e w2 ⟨F, rfl, hF, hF2, hb⟩
    have n3 := later_at hb N2.out
    have z0 := cellH n3 0
    have z1 := cellH n3 1
    have f0 := freeH n3 0
    have f1 := freeH n3 1
    simp at z0 z1
    have HB3 := Lib.hid (below_step HB2.out hb)
    have HFA := Lib.hid hF
    have N3 := Lib.hid n3
    clear hb hF n3
    unfold fltV
    go_wp2_with fail
    have st : ∀ (C : World) (i : Nat) (u : Value) (q : Nat), q ≠ w.heap.size + 1 → (C.setCell ⟨w.heap.size + 1, i, none⟩ u).heap[q]? = C.heap[q]? := fun C i u q h => Below.heap_setCell C ⟨w.heap.size + 1, i, none⟩ u q h
    have hFn : F ≠ w.heap.size + 1 := by
      simp at hF2
      omega
    refine bodyPost_ret (cell_tmp (x := .int .i64 0) (y := .int .u16 0) rfl ((row_set (row_set N3.out)).trans (by simp))) rfl ⟨(HB3.out.setCell (p := ⟨w.heap.size + 1, 0, none⟩) (by show w.heap.size ≤ w.heap.size + 1; omega) _).setCell (p := ⟨w.heap.size + 1, 1, none⟩) (by show w.heap.size ≤ w.heap.size + 1; omega) _, ?_⟩
    rw [HR.out]
    exact ⟨F, rfl, (st _ _ _ F hFn).trans ((st _ _ _ F hFn).trans HFA.out)⟩
end Go.Proofs.YtcfnmjhelhdobaaGreatDoor
