/-
  SectorPieces, walked over the bundle SecK, given the contracts of awake and of the ref's Print.
-/
import Derived.Test.YtblmempidngcgaaSecG
import Derived.Test.YtblmempidngcgaaKept
import Derived.BigRegion
namespace Go.Proofs.Ytblmempidngcgaa
open Go.RowKit

def cs13 (g h : Nat) (r : Pc) : List (Addr × Value) := [(⟨g, 0, none⟩, .int .u64 r.stamp), (⟨g, 1, none⟩, .int .i64 r.gen), (⟨g, 2, none⟩, .int .i64 r.no), (⟨g, 3, none⟩, .int .i64 r.idx), (⟨g, 4, none⟩, .int .i64 r.tot), (⟨g, 5, none⟩, .string r.data), (⟨h, 0, none⟩, .int .u64 r.stamp), (⟨h, 1, none⟩, .int .i64 r.gen), (⟨h, 2, none⟩, .int .i64 r.no), (⟨h, 3, none⟩, .int .i64 r.idx), (⟨h, 4, none⟩, .int .i64 r.tot), (⟨h, 5, none⟩, .string r.data)]
theorem hold13 {v : World} {g : Nat} {r : Pc} (h : v.heap[g]? = some (.cells #[.int .u64 r.stamp, .int .i64 r.gen, .int .i64 r.no, .int .i64 r.idx, .int .i64 r.tot, .string r.data] 24 (0, 0))) :
    HoldS (v.alloc (.cells #[.int .u64 r.stamp, .int .i64 r.gen, .int .i64 r.no, .int .i64 r.idx, .int .i64 r.tot, .string r.data] 30)) (cs13 g v.heap.size r) (fun _ => True) (v.alloc (.cells #[.int .u64 r.stamp, .int .i64 r.gen, .int .i64 r.no, .int .i64 r.idx, .int .i64 r.tot, .string r.data] 30)).drew := by
  have h' := later_at ((Below.refl v.heap.size v).alloc (Nat.le_refl _) (.cells #[.int .u64 r.stamp, .int .i64 r.gen, .int .i64 r.no, .int .i64 r.idx, .int .i64 r.tot, .string r.data] 30)).drew h
  have m' := made_at v (.cells #[.int .u64 r.stamp, .int .i64 r.gen, .int .i64 r.no, .int .i64 r.idx, .int .i64 r.tot, .string r.data] 30)
  refine ⟨?_, trivial, (Below.refl _ _).drew⟩
  exact cc (cellH h' 0) (cc (cellH h' 1) (cc (cellH h' 2) (cc (cellH h' 3) (cc (cellH h' 4) (cc (cellH h' 5) (cc (cellH m' 0) (cc (cellH m' 1) (cc (cellH m' 2) (cc (cellH m' 3) (cc (cellH m' 4) (cc (cellH m' 5) cn)))))))))))

set_option maxHeartbeats 1000000 in
set_option maxRecDepth 100000 in
theorem pieces_true (C : SecK) (aw : ∀ w : World, Calls Try.prog 7 #[] w fun e w' => e = .returned (.bool true) ∧ Below w.heap.size w w')
    (PR : ∀ (p : Pc), p.Ok → p.Fits → ∀ w : World, Calls Try.prog 12 #[pcV p] w fun e w' => e = .returned (.string (printB p)) ∧ Below w.heap.size w w')
    (a : Pc) (ha : a.In) (s : ByteArray) (hs : s.size ≤ maxLen) (w : World) :
    Calls Try.prog 3 #[pcV a, .string s] w fun e w' => e = .returned (.bool true) ∧ Below w.heap.size w w' := by
  have HC := Lib.hid C
  have AW := Lib.hid aw
  have RA := Lib.hid (fun w : World => refright_is a.stamp a.gen a.no a.idx a.tot a.data w)
  change Hid (∀ w : World, Calls Try.prog 9 _ w fun e w' => e = .returned (.bool (rightP a)) ∧ Below w.heap.size w w') at RA
  have RC := Lib.hid (C.right a ha)
  have PA := Lib.hid (C.print a ha)
  have RS := Lib.hid (C.read s hs)
  have RR := Lib.hid (fun w : World => refread_is PR s w)
  generalize (readP s).getD noPc = r at RS RR
  generalize (readP s).isSome = b at RS RR
  have HIa := Lib.hid ha
  clear C aw ha
  go_enter Try.func3, Try.ntmps3
  go_wp2_with fail
  refine (AW.out _).mono ?_
  rintro e w1 ⟨rfl, hb1⟩
  have HB1 := Lib.hid (below_step ((Below.refl w.heap.size w).alloc (Nat.le_refl _) (.cells #[.int .u64 a.stamp, .int .i64 a.gen, .int .i64 a.no, .int .i64 a.idx, .int .i64 a.tot, .string a.data] 24)) hb1)
  have HZ1 := Lib.hid (show w1.heap[w.heap.size]? = some (.cells #[.int .u64 a.stamp, .int .i64 a.gen, .int .i64 a.no, .int .i64 a.idx, .int .i64 a.tot, .string a.data] 24 (0, 0)) from later_at hb1 (made_at _ _))
  clear hb1
  have z0 := cellH HZ1.out 0
  have z1 := cellH HZ1.out 1
  have z2 := cellH HZ1.out 2
  have z3 := cellH HZ1.out 3
  have z4 := cellH HZ1.out 4
  have z5 := cellH HZ1.out 5
  have zf := freeH HZ1.out
  simp at z0 z1 z2 z3 z4 z5
  by_cases h1 : s.size ≤ 300
  rotate_left
  · have g1 : ¬ (s.size : Int) ≤ 300 := by omega
    have g2 : (300 : Int) < s.size := by omega
    go_wp2_with fail
    refine (AW.out _).mono ?_
    rintro e w2 ⟨rfl, hb2⟩
    have HB2 := Lib.hid (below_step HB1.out hb2)
    clear HB1 hb2 HZ1 z0 z1 z2 z3 z4 z5 zf
    go_wp2_with fail
    refine bodyPost_ret (v := .bool true) (by simp [results, Try.results3, go_sem]) rfl ⟨rfl, ?_⟩
    exact HB2.out
  by_cases h2 : a.data.size ≤ 300
  rotate_left
  · have g1 : ¬ (300 : Int) < s.size := by omega
    have g2 : (300 : Int) < a.data.size := by omega
    go_wp2_with fail
    refine (AW.out _).mono ?_
    rintro e w2 ⟨rfl, hb2⟩
    have HB2 := Lib.hid (below_step HB1.out hb2)
    clear HB1 hb2 HZ1 z0 z1 z2 z3 z4 z5 zf
    go_wp2_with fail
    refine bodyPost_ret (v := .bool true) (by simp [results, Try.results3, go_sem]) rfl ⟨rfl, ?_⟩
    exact HB2.out
  have g1 : ¬ (300 : Int) < s.size := by omega
  have g2 : ¬ (300 : Int) < a.data.size := by omega
  cases hra : rightP a
  · rw [hra] at RA RC
    rw [if_neg (by simp [hra]), if_neg (by simp [hra])] at PA
    go_wp2_with fail
    refine (PA.out _).mono ?_
    rintro e w2 ⟨rfl, hb2⟩
    have HZ2 := Lib.hid (later_at hb2 HZ1.out)
    have HB2 := Lib.hid (below_step HB1.out hb2)
    clear HB1 hb2 HZ1 z0 z1 z2 z3 z4 z5 zf
    have z0 := cellH HZ2.out 0
    have z1 := cellH HZ2.out 1
    have z2 := cellH HZ2.out 2
    have z3 := cellH HZ2.out 3
    have z4 := cellH HZ2.out 4
    have z5 := cellH HZ2.out 5
    have zf := freeH HZ2.out
    simp at z0 z1 z2 z3 z4 z5
    go_wp2_with fail
    refine (like_is _ _ _ _ _ _ _).mono ?_
    rintro e w3 ⟨rfl, hb3⟩
    have HZ3 := Lib.hid (later_at hb3 HZ2.out)
    have HB3 := Lib.hid (below_step HB2.out hb3)
    clear HB2 hb3 HZ2 z0 z1 z2 z3 z4 z5 zf
    have z0 := cellH HZ3.out 0
    have z1 := cellH HZ3.out 1
    have z2 := cellH HZ3.out 2
    have z3 := cellH HZ3.out 3
    have z4 := cellH HZ3.out 4
    have z5 := cellH HZ3.out 5
    have zf := freeH HZ3.out
    simp at z0 z1 z2 z3 z4 z5
    go_wp2_with fail
    refine (RA.out _).mono ?_
    rintro e w4 ⟨rfl, hb4⟩
    have HZ4 := Lib.hid (later_at hb4 HZ3.out)
    have HB4 := Lib.hid (below_step HB3.out hb4)
    clear HB3 hb4 HZ3 z0 z1 z2 z3 z4 z5 zf
    have z0 := cellH HZ4.out 0
    have z1 := cellH HZ4.out 1
    have z2 := cellH HZ4.out 2
    have z3 := cellH HZ4.out 3
    have z4 := cellH HZ4.out 4
    have z5 := cellH HZ4.out 5
    have zf := freeH HZ4.out
    simp at z0 z1 z2 z3 z4 z5
    go_wp2_with fail
    refine (RC.out _).mono ?_
    rintro e w5 ⟨rfl, hb5⟩
    have HZ5 := Lib.hid (later_at hb5 HZ4.out)
    have HB5 := Lib.hid (below_step HB4.out hb5)
    clear HB4 hb5 HZ4 z0 z1 z2 z3 z4 z5 zf
    have z0 := cellH HZ5.out 0
    have z1 := cellH HZ5.out 1
    have z2 := cellH HZ5.out 2
    have z3 := cellH HZ5.out 3
    have z4 := cellH HZ5.out 4
    have z5 := cellH HZ5.out 5
    have zf := freeH HZ5.out
    simp at z0 z1 z2 z3 z4 z5
    go_wp2_with fail
    cases b
    · rw [if_neg (by simp)] at RS
      refine (RS.out _).mono ?_
      rintro e w6 ⟨rfl, hb6⟩
      have HZ6 := Lib.hid (later_at hb6 HZ5.out)
      have HB6 := Lib.hid (below_step HB5.out hb6)
      clear HB5 hb6 HZ5 z0 z1 z2 z3 z4 z5 zf
      have z0 := cellH HZ6.out 0
      have z1 := cellH HZ6.out 1
      have z2 := cellH HZ6.out 2
      have z3 := cellH HZ6.out 3
      have z4 := cellH HZ6.out 4
      have z5 := cellH HZ6.out 5
      have zf := freeH HZ6.out
      simp at z0 z1 z2 z3 z4 z5
      go_wp2_with fail
      refine (RR.out _).mono ?_
      rintro e w7 ⟨rfl, hb7⟩
      have HB7 := Lib.hid (below_step (HB6.out.alloc HB6.out.size (.cells #[.int .u64 r.stamp, .int .i64 r.gen, .int .i64 r.no, .int .i64 r.idx, .int .i64 r.tot, .string r.data] 24)) hb7)
      have HQ7 := Lib.hid (show w7.heap[w6.heap.size]? = some (.cells #[.int .u64 r.stamp, .int .i64 r.gen, .int .i64 r.no, .int .i64 r.idx, .int .i64 r.tot, .string r.data] 24 (0, 0)) from later_at hb7 (made_at _ _))
      clear RS RR RA RC PA AW HB6 hb7 HZ6 z0 z1 z2 z3 z4 z5 zf
      have q0 := cellH HQ7.out 0
      have q1 := cellH HQ7.out 1
      have q2 := cellH HQ7.out 2
      have q3 := cellH HQ7.out 3
      have q4 := cellH HQ7.out 4
      have q5 := cellH HQ7.out 5
      have qf := freeH HQ7.out
      simp at q0 q1 q2 q3 q4 q5
      go_wp2_with fail
      clear qf
      have HK := Lib.hid (hold13 HQ7.out)
      have b3 : (r.data.toList == r.data.toList) = true := by simp
      clear HQ7 q0 q1 q2 q3 q4 q5
      refine wp_region_kept _ (by kernel_rfl) (by kernel_rfl) HK.out ?_
      intro hne
      have f0 : ∀ x : HeldW (HoldS (w7.alloc (.cells #[.int .u64 r.stamp, .int .i64 r.gen, .int .i64 r.no, .int .i64 r.idx, .int .i64 r.tot, .string r.data] 30)) (cs13 w6.heap.size w7.heap.size r) (fun _ => True)), x.w.cell? ⟨w6.heap.size, 0, none⟩ = some (.int .u64 r.stamp) := fun x => x.at_ 0 rfl
      have f1 : ∀ x : HeldW (HoldS (w7.alloc (.cells #[.int .u64 r.stamp, .int .i64 r.gen, .int .i64 r.no, .int .i64 r.idx, .int .i64 r.tot, .string r.data] 30)) (cs13 w6.heap.size w7.heap.size r) (fun _ => True)), x.w.cell? ⟨w6.heap.size, 1, none⟩ = some (.int .i64 r.gen) := fun x => x.at_ 1 rfl
      have f2 : ∀ x : HeldW (HoldS (w7.alloc (.cells #[.int .u64 r.stamp, .int .i64 r.gen, .int .i64 r.no, .int .i64 r.idx, .int .i64 r.tot, .string r.data] 30)) (cs13 w6.heap.size w7.heap.size r) (fun _ => True)), x.w.cell? ⟨w6.heap.size, 2, none⟩ = some (.int .i64 r.no) := fun x => x.at_ 2 rfl
      have f3 : ∀ x : HeldW (HoldS (w7.alloc (.cells #[.int .u64 r.stamp, .int .i64 r.gen, .int .i64 r.no, .int .i64 r.idx, .int .i64 r.tot, .string r.data] 30)) (cs13 w6.heap.size w7.heap.size r) (fun _ => True)), x.w.cell? ⟨w6.heap.size, 3, none⟩ = some (.int .i64 r.idx) := fun x => x.at_ 3 rfl
      have f4 : ∀ x : HeldW (HoldS (w7.alloc (.cells #[.int .u64 r.stamp, .int .i64 r.gen, .int .i64 r.no, .int .i64 r.idx, .int .i64 r.tot, .string r.data] 30)) (cs13 w6.heap.size w7.heap.size r) (fun _ => True)), x.w.cell? ⟨w6.heap.size, 4, none⟩ = some (.int .i64 r.tot) := fun x => x.at_ 4 rfl
      have f5 : ∀ x : HeldW (HoldS (w7.alloc (.cells #[.int .u64 r.stamp, .int .i64 r.gen, .int .i64 r.no, .int .i64 r.idx, .int .i64 r.tot, .string r.data] 30)) (cs13 w6.heap.size w7.heap.size r) (fun _ => True)), x.w.cell? ⟨w6.heap.size, 5, none⟩ = some (.string r.data) := fun x => x.at_ 5 rfl
      have f6 : ∀ x : HeldW (HoldS (w7.alloc (.cells #[.int .u64 r.stamp, .int .i64 r.gen, .int .i64 r.no, .int .i64 r.idx, .int .i64 r.tot, .string r.data] 30)) (cs13 w6.heap.size w7.heap.size r) (fun _ => True)), x.w.cell? ⟨w7.heap.size, 0, none⟩ = some (.int .u64 r.stamp) := fun x => x.at_ 6 rfl
      have f7 : ∀ x : HeldW (HoldS (w7.alloc (.cells #[.int .u64 r.stamp, .int .i64 r.gen, .int .i64 r.no, .int .i64 r.idx, .int .i64 r.tot, .string r.data] 30)) (cs13 w6.heap.size w7.heap.size r) (fun _ => True)), x.w.cell? ⟨w7.heap.size, 1, none⟩ = some (.int .i64 r.gen) := fun x => x.at_ 7 rfl
      have f8 : ∀ x : HeldW (HoldS (w7.alloc (.cells #[.int .u64 r.stamp, .int .i64 r.gen, .int .i64 r.no, .int .i64 r.idx, .int .i64 r.tot, .string r.data] 30)) (cs13 w6.heap.size w7.heap.size r) (fun _ => True)), x.w.cell? ⟨w7.heap.size, 2, none⟩ = some (.int .i64 r.no) := fun x => x.at_ 8 rfl
      have f9 : ∀ x : HeldW (HoldS (w7.alloc (.cells #[.int .u64 r.stamp, .int .i64 r.gen, .int .i64 r.no, .int .i64 r.idx, .int .i64 r.tot, .string r.data] 30)) (cs13 w6.heap.size w7.heap.size r) (fun _ => True)), x.w.cell? ⟨w7.heap.size, 3, none⟩ = some (.int .i64 r.idx) := fun x => x.at_ 9 rfl
      have f10 : ∀ x : HeldW (HoldS (w7.alloc (.cells #[.int .u64 r.stamp, .int .i64 r.gen, .int .i64 r.no, .int .i64 r.idx, .int .i64 r.tot, .string r.data] 30)) (cs13 w6.heap.size w7.heap.size r) (fun _ => True)), x.w.cell? ⟨w7.heap.size, 4, none⟩ = some (.int .i64 r.tot) := fun x => x.at_ 10 rfl
      have f11 : ∀ x : HeldW (HoldS (w7.alloc (.cells #[.int .u64 r.stamp, .int .i64 r.gen, .int .i64 r.no, .int .i64 r.idx, .int .i64 r.tot, .string r.data] 30)) (cs13 w6.heap.size w7.heap.size r) (fun _ => True)), x.w.cell? ⟨w7.heap.size, 5, none⟩ = some (.string r.data) := fun x => x.at_ 11 rfl
      repeat (go_big_quiet_step (first | (go_at_call 10; refine kept_of (HoldS.keep keepTrue) (like_is _ _ _ _ _ _ _))))
      refine wpQuiet_nil ?_
      rintro w99 ⟨⟨_, hq9⟩, rfl⟩
      obtain ⟨_, _, hb99⟩ := hq9
      have HB99 := Lib.hid (below_step (HB7.out.alloc HB7.out.size (.cells #[.int .u64 r.stamp, .int .i64 r.gen, .int .i64 r.no, .int .i64 r.idx, .int .i64 r.tot, .string r.data] 30)) hb99)
      clear f0 f1 f2 f3 f4 f5 f6 f7 f8 f9 f10 f11 hne HK hb99 HB7
      go_wp2_with fail
      refine bodyPost_ret (v := .bool true) (by simp [results, Try.results3, go_sem]) rfl ⟨rfl, ?_⟩
      exact HB99.out
    · rw [if_pos rfl] at RS
      refine (RS.out _).mono ?_
      rintro e w6 ⟨rfl, hb6⟩
      have HZ6 := Lib.hid (later_at hb6 HZ5.out)
      have HB6 := Lib.hid (below_step HB5.out hb6)
      clear HB5 hb6 HZ5 z0 z1 z2 z3 z4 z5 zf
      have z0 := cellH HZ6.out 0
      have z1 := cellH HZ6.out 1
      have z2 := cellH HZ6.out 2
      have z3 := cellH HZ6.out 3
      have z4 := cellH HZ6.out 4
      have z5 := cellH HZ6.out 5
      have zf := freeH HZ6.out
      simp at z0 z1 z2 z3 z4 z5
      go_wp2_with fail
      refine (RR.out _).mono ?_
      rintro e w7 ⟨rfl, hb7⟩
      have HB7 := Lib.hid (below_step (HB6.out.alloc HB6.out.size (.cells #[.int .u64 r.stamp, .int .i64 r.gen, .int .i64 r.no, .int .i64 r.idx, .int .i64 r.tot, .string r.data] 24)) hb7)
      have HQ7 := Lib.hid (show w7.heap[w6.heap.size]? = some (.cells #[.int .u64 r.stamp, .int .i64 r.gen, .int .i64 r.no, .int .i64 r.idx, .int .i64 r.tot, .string r.data] 24 (0, 0)) from later_at hb7 (made_at _ _))
      clear RS RR RA RC PA AW HB6 hb7 HZ6 z0 z1 z2 z3 z4 z5 zf
      have q0 := cellH HQ7.out 0
      have q1 := cellH HQ7.out 1
      have q2 := cellH HQ7.out 2
      have q3 := cellH HQ7.out 3
      have q4 := cellH HQ7.out 4
      have q5 := cellH HQ7.out 5
      have qf := freeH HQ7.out
      simp at q0 q1 q2 q3 q4 q5
      go_wp2_with fail
      clear qf
      have HK := Lib.hid (hold13 HQ7.out)
      have b3 : (r.data.toList == r.data.toList) = true := by simp
      clear HQ7 q0 q1 q2 q3 q4 q5
      refine wp_region_kept _ (by kernel_rfl) (by kernel_rfl) HK.out ?_
      intro hne
      have f0 : ∀ x : HeldW (HoldS (w7.alloc (.cells #[.int .u64 r.stamp, .int .i64 r.gen, .int .i64 r.no, .int .i64 r.idx, .int .i64 r.tot, .string r.data] 30)) (cs13 w6.heap.size w7.heap.size r) (fun _ => True)), x.w.cell? ⟨w6.heap.size, 0, none⟩ = some (.int .u64 r.stamp) := fun x => x.at_ 0 rfl
      have f1 : ∀ x : HeldW (HoldS (w7.alloc (.cells #[.int .u64 r.stamp, .int .i64 r.gen, .int .i64 r.no, .int .i64 r.idx, .int .i64 r.tot, .string r.data] 30)) (cs13 w6.heap.size w7.heap.size r) (fun _ => True)), x.w.cell? ⟨w6.heap.size, 1, none⟩ = some (.int .i64 r.gen) := fun x => x.at_ 1 rfl
      have f2 : ∀ x : HeldW (HoldS (w7.alloc (.cells #[.int .u64 r.stamp, .int .i64 r.gen, .int .i64 r.no, .int .i64 r.idx, .int .i64 r.tot, .string r.data] 30)) (cs13 w6.heap.size w7.heap.size r) (fun _ => True)), x.w.cell? ⟨w6.heap.size, 2, none⟩ = some (.int .i64 r.no) := fun x => x.at_ 2 rfl
      have f3 : ∀ x : HeldW (HoldS (w7.alloc (.cells #[.int .u64 r.stamp, .int .i64 r.gen, .int .i64 r.no, .int .i64 r.idx, .int .i64 r.tot, .string r.data] 30)) (cs13 w6.heap.size w7.heap.size r) (fun _ => True)), x.w.cell? ⟨w6.heap.size, 3, none⟩ = some (.int .i64 r.idx) := fun x => x.at_ 3 rfl
      have f4 : ∀ x : HeldW (HoldS (w7.alloc (.cells #[.int .u64 r.stamp, .int .i64 r.gen, .int .i64 r.no, .int .i64 r.idx, .int .i64 r.tot, .string r.data] 30)) (cs13 w6.heap.size w7.heap.size r) (fun _ => True)), x.w.cell? ⟨w6.heap.size, 4, none⟩ = some (.int .i64 r.tot) := fun x => x.at_ 4 rfl
      have f5 : ∀ x : HeldW (HoldS (w7.alloc (.cells #[.int .u64 r.stamp, .int .i64 r.gen, .int .i64 r.no, .int .i64 r.idx, .int .i64 r.tot, .string r.data] 30)) (cs13 w6.heap.size w7.heap.size r) (fun _ => True)), x.w.cell? ⟨w6.heap.size, 5, none⟩ = some (.string r.data) := fun x => x.at_ 5 rfl
      have f6 : ∀ x : HeldW (HoldS (w7.alloc (.cells #[.int .u64 r.stamp, .int .i64 r.gen, .int .i64 r.no, .int .i64 r.idx, .int .i64 r.tot, .string r.data] 30)) (cs13 w6.heap.size w7.heap.size r) (fun _ => True)), x.w.cell? ⟨w7.heap.size, 0, none⟩ = some (.int .u64 r.stamp) := fun x => x.at_ 6 rfl
      have f7 : ∀ x : HeldW (HoldS (w7.alloc (.cells #[.int .u64 r.stamp, .int .i64 r.gen, .int .i64 r.no, .int .i64 r.idx, .int .i64 r.tot, .string r.data] 30)) (cs13 w6.heap.size w7.heap.size r) (fun _ => True)), x.w.cell? ⟨w7.heap.size, 1, none⟩ = some (.int .i64 r.gen) := fun x => x.at_ 7 rfl
      have f8 : ∀ x : HeldW (HoldS (w7.alloc (.cells #[.int .u64 r.stamp, .int .i64 r.gen, .int .i64 r.no, .int .i64 r.idx, .int .i64 r.tot, .string r.data] 30)) (cs13 w6.heap.size w7.heap.size r) (fun _ => True)), x.w.cell? ⟨w7.heap.size, 2, none⟩ = some (.int .i64 r.no) := fun x => x.at_ 8 rfl
      have f9 : ∀ x : HeldW (HoldS (w7.alloc (.cells #[.int .u64 r.stamp, .int .i64 r.gen, .int .i64 r.no, .int .i64 r.idx, .int .i64 r.tot, .string r.data] 30)) (cs13 w6.heap.size w7.heap.size r) (fun _ => True)), x.w.cell? ⟨w7.heap.size, 3, none⟩ = some (.int .i64 r.idx) := fun x => x.at_ 9 rfl
      have f10 : ∀ x : HeldW (HoldS (w7.alloc (.cells #[.int .u64 r.stamp, .int .i64 r.gen, .int .i64 r.no, .int .i64 r.idx, .int .i64 r.tot, .string r.data] 30)) (cs13 w6.heap.size w7.heap.size r) (fun _ => True)), x.w.cell? ⟨w7.heap.size, 4, none⟩ = some (.int .i64 r.tot) := fun x => x.at_ 10 rfl
      have f11 : ∀ x : HeldW (HoldS (w7.alloc (.cells #[.int .u64 r.stamp, .int .i64 r.gen, .int .i64 r.no, .int .i64 r.idx, .int .i64 r.tot, .string r.data] 30)) (cs13 w6.heap.size w7.heap.size r) (fun _ => True)), x.w.cell? ⟨w7.heap.size, 5, none⟩ = some (.string r.data) := fun x => x.at_ 11 rfl
      repeat (go_big_quiet_step (first | (go_at_call 10; refine kept_of (HoldS.keep keepTrue) (like_is _ _ _ _ _ _ _))))
      refine wpQuiet_nil ?_
      rintro w99 ⟨⟨_, hq9⟩, rfl⟩
      obtain ⟨_, _, hb99⟩ := hq9
      have HB99 := Lib.hid (below_step (HB7.out.alloc HB7.out.size (.cells #[.int .u64 r.stamp, .int .i64 r.gen, .int .i64 r.no, .int .i64 r.idx, .int .i64 r.tot, .string r.data] 30)) hb99)
      clear f0 f1 f2 f3 f4 f5 f6 f7 f8 f9 f10 f11 hne HK hb99 HB7
      go_wp2_with fail
      refine bodyPost_ret (v := .bool true) (by simp [results, Try.results3, go_sem]) rfl ⟨rfl, ?_⟩
      exact HB99.out
  · have ok := (rightP_iff a).1 hra
    have sz := print_size ok.d
    have RP := Lib.hid (HC.out.read (printB a) (by rw [sz]; unfold maxLen; omega))
    rw [read_print ok HIa.out.fits] at RP
    have PP := Lib.hid (PR a ok HIa.out.fits)
    rw [hra] at RA RC
    rw [if_pos hra, if_pos hra] at PA
    have b4 : ((printB a).toList == (printB a).toList) = true := by simp
    have b5 : (a.data.toList == a.data.toList) = true := by simp
    generalize printB a = t at *
    clear ok
    go_wp2_with fail
    refine (PA.out _).mono ?_
    rintro e w2 ⟨rfl, hb2⟩
    have HZ2 := Lib.hid (later_at hb2 HZ1.out)
    have HB2 := Lib.hid (below_step HB1.out hb2)
    clear HB1 hb2 HZ1 z0 z1 z2 z3 z4 z5 zf
    have z0 := cellH HZ2.out 0
    have z1 := cellH HZ2.out 1
    have z2 := cellH HZ2.out 2
    have z3 := cellH HZ2.out 3
    have z4 := cellH HZ2.out 4
    have z5 := cellH HZ2.out 5
    have zf := freeH HZ2.out
    simp at z0 z1 z2 z3 z4 z5
    go_wp2_with fail
    refine (like_is _ _ _ _ _ _ _).mono ?_
    rintro e w3 ⟨rfl, hb3⟩
    have HZ3 := Lib.hid (later_at hb3 HZ2.out)
    have HB3 := Lib.hid (below_step HB2.out hb3)
    clear HB2 hb3 HZ2 z0 z1 z2 z3 z4 z5 zf
    have z0 := cellH HZ3.out 0
    have z1 := cellH HZ3.out 1
    have z2 := cellH HZ3.out 2
    have z3 := cellH HZ3.out 3
    have z4 := cellH HZ3.out 4
    have z5 := cellH HZ3.out 5
    have zf := freeH HZ3.out
    simp at z0 z1 z2 z3 z4 z5
    go_wp2_with fail
    refine (RA.out _).mono ?_
    rintro e w4 ⟨rfl, hb4⟩
    have HZ4 := Lib.hid (later_at hb4 HZ3.out)
    have HB4 := Lib.hid (below_step HB3.out hb4)
    clear HB3 hb4 HZ3 z0 z1 z2 z3 z4 z5 zf
    have z0 := cellH HZ4.out 0
    have z1 := cellH HZ4.out 1
    have z2 := cellH HZ4.out 2
    have z3 := cellH HZ4.out 3
    have z4 := cellH HZ4.out 4
    have z5 := cellH HZ4.out 5
    have zf := freeH HZ4.out
    simp at z0 z1 z2 z3 z4 z5
    go_wp2_with fail
    refine (RC.out _).mono ?_
    rintro e w5 ⟨rfl, hb5⟩
    have HZ5 := Lib.hid (later_at hb5 HZ4.out)
    have HB5 := Lib.hid (below_step HB4.out hb5)
    clear HB4 hb5 HZ4 z0 z1 z2 z3 z4 z5 zf
    have z0 := cellH HZ5.out 0
    have z1 := cellH HZ5.out 1
    have z2 := cellH HZ5.out 2
    have z3 := cellH HZ5.out 3
    have z4 := cellH HZ5.out 4
    have z5 := cellH HZ5.out 5
    have zf := freeH HZ5.out
    simp at z0 z1 z2 z3 z4 z5
    go_wp2_with fail
    refine (like_is _ _ _ _ _ _ _).mono ?_
    rintro e w6 ⟨rfl, hb6⟩
    have HZ6 := Lib.hid (later_at hb6 HZ5.out)
    have HB6 := Lib.hid (below_step HB5.out hb6)
    clear HB5 hb6 HZ5 z0 z1 z2 z3 z4 z5 zf
    have z0 := cellH HZ6.out 0
    have z1 := cellH HZ6.out 1
    have z2 := cellH HZ6.out 2
    have z3 := cellH HZ6.out 3
    have z4 := cellH HZ6.out 4
    have z5 := cellH HZ6.out 5
    have zf := freeH HZ6.out
    simp at z0 z1 z2 z3 z4 z5
    go_wp2_with fail
    refine (PP.out _).mono ?_
    rintro e w7 ⟨rfl, hb7⟩
    have HZ7 := Lib.hid (later_at hb7 HZ6.out)
    have HB7 := Lib.hid (below_step HB6.out hb7)
    clear HB6 hb7 HZ6 z0 z1 z2 z3 z4 z5 zf
    have z0 := cellH HZ7.out 0
    have z1 := cellH HZ7.out 1
    have z2 := cellH HZ7.out 2
    have z3 := cellH HZ7.out 3
    have z4 := cellH HZ7.out 4
    have z5 := cellH HZ7.out 5
    have zf := freeH HZ7.out
    simp at z0 z1 z2 z3 z4 z5
    go_wp2_with fail
    refine (RP.out _).mono ?_
    rintro e w8 ⟨rfl, hb8⟩
    have HZ8 := Lib.hid (later_at hb8 HZ7.out)
    have HB8 := Lib.hid (below_step HB7.out hb8)
    clear HB7 hb8 HZ7 z0 z1 z2 z3 z4 z5 zf
    have z0 := cellH HZ8.out 0
    have z1 := cellH HZ8.out 1
    have z2 := cellH HZ8.out 2
    have z3 := cellH HZ8.out 3
    have z4 := cellH HZ8.out 4
    have z5 := cellH HZ8.out 5
    have zf := freeH HZ8.out
    simp at z0 z1 z2 z3 z4 z5
    rw [show (some a).getD noPc = a from rfl]
    have HY8 := Lib.hid (later_at ((Below.refl w8.heap.size w8).alloc (Nat.le_refl _) (.cells #[.int .u64 a.stamp, .int .i64 a.gen, .int .i64 a.no, .int .i64 a.idx, .int .i64 a.tot, .string a.data] 24)) HZ8.out)
    have y0 := cellH HY8.out 0
    have y1 := cellH HY8.out 1
    have y2 := cellH HY8.out 2
    have y3 := cellH HY8.out 3
    have y4 := cellH HY8.out 4
    have y5 := cellH HY8.out 5
    simp at y0 y1 y2 y3 y4 y5
    go_wp2_with fail
    cases b
    · rw [if_neg (by simp)] at RS
      refine (RS.out _).mono ?_
      rintro e w9 ⟨rfl, hb9⟩
      have HZ9 := Lib.hid (later_at hb9 HY8.out)
      have HB9 := Lib.hid (below_step (HB8.out.alloc HB8.out.size (.cells #[.int .u64 a.stamp, .int .i64 a.gen, .int .i64 a.no, .int .i64 a.idx, .int .i64 a.tot, .string a.data] 24)) hb9)
      clear HB8 hb9 HY8 HZ8 RP PP HC PR y0 y1 y2 y3 y4 y5 z0 z1 z2 z3 z4 z5 zf
      have z0 := cellH HZ9.out 0
      have z1 := cellH HZ9.out 1
      have z2 := cellH HZ9.out 2
      have z3 := cellH HZ9.out 3
      have z4 := cellH HZ9.out 4
      have z5 := cellH HZ9.out 5
      have zf := freeH HZ9.out
      simp at z0 z1 z2 z3 z4 z5
      go_wp2_with fail
      refine (RR.out _).mono ?_
      rintro e w10 ⟨rfl, hb10⟩
      have HB10 := Lib.hid (below_step (HB9.out.alloc HB9.out.size (.cells #[.int .u64 r.stamp, .int .i64 r.gen, .int .i64 r.no, .int .i64 r.idx, .int .i64 r.tot, .string r.data] 24)) hb10)
      have HQ10 := Lib.hid (show w10.heap[w9.heap.size]? = some (.cells #[.int .u64 r.stamp, .int .i64 r.gen, .int .i64 r.no, .int .i64 r.idx, .int .i64 r.tot, .string r.data] 24 (0, 0)) from later_at hb10 (made_at _ _))
      clear RS RR RA RC PA AW HB9 hb10 HZ9 z0 z1 z2 z3 z4 z5 zf
      have q0 := cellH HQ10.out 0
      have q1 := cellH HQ10.out 1
      have q2 := cellH HQ10.out 2
      have q3 := cellH HQ10.out 3
      have q4 := cellH HQ10.out 4
      have q5 := cellH HQ10.out 5
      have qf := freeH HQ10.out
      simp at q0 q1 q2 q3 q4 q5
      go_wp2_with fail
      clear qf
      have HK := Lib.hid (hold13 HQ10.out)
      have b3 : (r.data.toList == r.data.toList) = true := by simp
      clear HQ10 q0 q1 q2 q3 q4 q5
      refine wp_region_kept _ (by kernel_rfl) (by kernel_rfl) HK.out ?_
      intro hne
      have f0 : ∀ x : HeldW (HoldS (w10.alloc (.cells #[.int .u64 r.stamp, .int .i64 r.gen, .int .i64 r.no, .int .i64 r.idx, .int .i64 r.tot, .string r.data] 30)) (cs13 w9.heap.size w10.heap.size r) (fun _ => True)), x.w.cell? ⟨w9.heap.size, 0, none⟩ = some (.int .u64 r.stamp) := fun x => x.at_ 0 rfl
      have f1 : ∀ x : HeldW (HoldS (w10.alloc (.cells #[.int .u64 r.stamp, .int .i64 r.gen, .int .i64 r.no, .int .i64 r.idx, .int .i64 r.tot, .string r.data] 30)) (cs13 w9.heap.size w10.heap.size r) (fun _ => True)), x.w.cell? ⟨w9.heap.size, 1, none⟩ = some (.int .i64 r.gen) := fun x => x.at_ 1 rfl
      have f2 : ∀ x : HeldW (HoldS (w10.alloc (.cells #[.int .u64 r.stamp, .int .i64 r.gen, .int .i64 r.no, .int .i64 r.idx, .int .i64 r.tot, .string r.data] 30)) (cs13 w9.heap.size w10.heap.size r) (fun _ => True)), x.w.cell? ⟨w9.heap.size, 2, none⟩ = some (.int .i64 r.no) := fun x => x.at_ 2 rfl
      have f3 : ∀ x : HeldW (HoldS (w10.alloc (.cells #[.int .u64 r.stamp, .int .i64 r.gen, .int .i64 r.no, .int .i64 r.idx, .int .i64 r.tot, .string r.data] 30)) (cs13 w9.heap.size w10.heap.size r) (fun _ => True)), x.w.cell? ⟨w9.heap.size, 3, none⟩ = some (.int .i64 r.idx) := fun x => x.at_ 3 rfl
      have f4 : ∀ x : HeldW (HoldS (w10.alloc (.cells #[.int .u64 r.stamp, .int .i64 r.gen, .int .i64 r.no, .int .i64 r.idx, .int .i64 r.tot, .string r.data] 30)) (cs13 w9.heap.size w10.heap.size r) (fun _ => True)), x.w.cell? ⟨w9.heap.size, 4, none⟩ = some (.int .i64 r.tot) := fun x => x.at_ 4 rfl
      have f5 : ∀ x : HeldW (HoldS (w10.alloc (.cells #[.int .u64 r.stamp, .int .i64 r.gen, .int .i64 r.no, .int .i64 r.idx, .int .i64 r.tot, .string r.data] 30)) (cs13 w9.heap.size w10.heap.size r) (fun _ => True)), x.w.cell? ⟨w9.heap.size, 5, none⟩ = some (.string r.data) := fun x => x.at_ 5 rfl
      have f6 : ∀ x : HeldW (HoldS (w10.alloc (.cells #[.int .u64 r.stamp, .int .i64 r.gen, .int .i64 r.no, .int .i64 r.idx, .int .i64 r.tot, .string r.data] 30)) (cs13 w9.heap.size w10.heap.size r) (fun _ => True)), x.w.cell? ⟨w10.heap.size, 0, none⟩ = some (.int .u64 r.stamp) := fun x => x.at_ 6 rfl
      have f7 : ∀ x : HeldW (HoldS (w10.alloc (.cells #[.int .u64 r.stamp, .int .i64 r.gen, .int .i64 r.no, .int .i64 r.idx, .int .i64 r.tot, .string r.data] 30)) (cs13 w9.heap.size w10.heap.size r) (fun _ => True)), x.w.cell? ⟨w10.heap.size, 1, none⟩ = some (.int .i64 r.gen) := fun x => x.at_ 7 rfl
      have f8 : ∀ x : HeldW (HoldS (w10.alloc (.cells #[.int .u64 r.stamp, .int .i64 r.gen, .int .i64 r.no, .int .i64 r.idx, .int .i64 r.tot, .string r.data] 30)) (cs13 w9.heap.size w10.heap.size r) (fun _ => True)), x.w.cell? ⟨w10.heap.size, 2, none⟩ = some (.int .i64 r.no) := fun x => x.at_ 8 rfl
      have f9 : ∀ x : HeldW (HoldS (w10.alloc (.cells #[.int .u64 r.stamp, .int .i64 r.gen, .int .i64 r.no, .int .i64 r.idx, .int .i64 r.tot, .string r.data] 30)) (cs13 w9.heap.size w10.heap.size r) (fun _ => True)), x.w.cell? ⟨w10.heap.size, 3, none⟩ = some (.int .i64 r.idx) := fun x => x.at_ 9 rfl
      have f10 : ∀ x : HeldW (HoldS (w10.alloc (.cells #[.int .u64 r.stamp, .int .i64 r.gen, .int .i64 r.no, .int .i64 r.idx, .int .i64 r.tot, .string r.data] 30)) (cs13 w9.heap.size w10.heap.size r) (fun _ => True)), x.w.cell? ⟨w10.heap.size, 4, none⟩ = some (.int .i64 r.tot) := fun x => x.at_ 10 rfl
      have f11 : ∀ x : HeldW (HoldS (w10.alloc (.cells #[.int .u64 r.stamp, .int .i64 r.gen, .int .i64 r.no, .int .i64 r.idx, .int .i64 r.tot, .string r.data] 30)) (cs13 w9.heap.size w10.heap.size r) (fun _ => True)), x.w.cell? ⟨w10.heap.size, 5, none⟩ = some (.string r.data) := fun x => x.at_ 11 rfl
      repeat (go_big_quiet_step (first | (go_at_call 10; refine kept_of (HoldS.keep keepTrue) (like_is _ _ _ _ _ _ _))))
      refine wpQuiet_nil ?_
      rintro w99 ⟨⟨_, hq9⟩, rfl⟩
      obtain ⟨_, _, hb99⟩ := hq9
      have HB99 := Lib.hid (below_step (HB10.out.alloc HB10.out.size (.cells #[.int .u64 r.stamp, .int .i64 r.gen, .int .i64 r.no, .int .i64 r.idx, .int .i64 r.tot, .string r.data] 30)) hb99)
      clear f0 f1 f2 f3 f4 f5 f6 f7 f8 f9 f10 f11 hne HK hb99 HB10
      go_wp2_with fail
      refine bodyPost_ret (v := .bool true) (by simp [results, Try.results3, go_sem]) rfl ⟨rfl, ?_⟩
      exact HB99.out
    · rw [if_pos rfl] at RS
      refine (RS.out _).mono ?_
      rintro e w9 ⟨rfl, hb9⟩
      have HZ9 := Lib.hid (later_at hb9 HY8.out)
      have HB9 := Lib.hid (below_step (HB8.out.alloc HB8.out.size (.cells #[.int .u64 a.stamp, .int .i64 a.gen, .int .i64 a.no, .int .i64 a.idx, .int .i64 a.tot, .string a.data] 24)) hb9)
      clear HB8 hb9 HY8 HZ8 RP PP HC PR y0 y1 y2 y3 y4 y5 z0 z1 z2 z3 z4 z5 zf
      have z0 := cellH HZ9.out 0
      have z1 := cellH HZ9.out 1
      have z2 := cellH HZ9.out 2
      have z3 := cellH HZ9.out 3
      have z4 := cellH HZ9.out 4
      have z5 := cellH HZ9.out 5
      have zf := freeH HZ9.out
      simp at z0 z1 z2 z3 z4 z5
      go_wp2_with fail
      refine (RR.out _).mono ?_
      rintro e w10 ⟨rfl, hb10⟩
      have HB10 := Lib.hid (below_step (HB9.out.alloc HB9.out.size (.cells #[.int .u64 r.stamp, .int .i64 r.gen, .int .i64 r.no, .int .i64 r.idx, .int .i64 r.tot, .string r.data] 24)) hb10)
      have HQ10 := Lib.hid (show w10.heap[w9.heap.size]? = some (.cells #[.int .u64 r.stamp, .int .i64 r.gen, .int .i64 r.no, .int .i64 r.idx, .int .i64 r.tot, .string r.data] 24 (0, 0)) from later_at hb10 (made_at _ _))
      clear RS RR RA RC PA AW HB9 hb10 HZ9 z0 z1 z2 z3 z4 z5 zf
      have q0 := cellH HQ10.out 0
      have q1 := cellH HQ10.out 1
      have q2 := cellH HQ10.out 2
      have q3 := cellH HQ10.out 3
      have q4 := cellH HQ10.out 4
      have q5 := cellH HQ10.out 5
      have qf := freeH HQ10.out
      simp at q0 q1 q2 q3 q4 q5
      go_wp2_with fail
      clear qf
      have HK := Lib.hid (hold13 HQ10.out)
      have b3 : (r.data.toList == r.data.toList) = true := by simp
      clear HQ10 q0 q1 q2 q3 q4 q5
      refine wp_region_kept _ (by kernel_rfl) (by kernel_rfl) HK.out ?_
      intro hne
      have f0 : ∀ x : HeldW (HoldS (w10.alloc (.cells #[.int .u64 r.stamp, .int .i64 r.gen, .int .i64 r.no, .int .i64 r.idx, .int .i64 r.tot, .string r.data] 30)) (cs13 w9.heap.size w10.heap.size r) (fun _ => True)), x.w.cell? ⟨w9.heap.size, 0, none⟩ = some (.int .u64 r.stamp) := fun x => x.at_ 0 rfl
      have f1 : ∀ x : HeldW (HoldS (w10.alloc (.cells #[.int .u64 r.stamp, .int .i64 r.gen, .int .i64 r.no, .int .i64 r.idx, .int .i64 r.tot, .string r.data] 30)) (cs13 w9.heap.size w10.heap.size r) (fun _ => True)), x.w.cell? ⟨w9.heap.size, 1, none⟩ = some (.int .i64 r.gen) := fun x => x.at_ 1 rfl
      have f2 : ∀ x : HeldW (HoldS (w10.alloc (.cells #[.int .u64 r.stamp, .int .i64 r.gen, .int .i64 r.no, .int .i64 r.idx, .int .i64 r.tot, .string r.data] 30)) (cs13 w9.heap.size w10.heap.size r) (fun _ => True)), x.w.cell? ⟨w9.heap.size, 2, none⟩ = some (.int .i64 r.no) := fun x => x.at_ 2 rfl
      have f3 : ∀ x : HeldW (HoldS (w10.alloc (.cells #[.int .u64 r.stamp, .int .i64 r.gen, .int .i64 r.no, .int .i64 r.idx, .int .i64 r.tot, .string r.data] 30)) (cs13 w9.heap.size w10.heap.size r) (fun _ => True)), x.w.cell? ⟨w9.heap.size, 3, none⟩ = some (.int .i64 r.idx) := fun x => x.at_ 3 rfl
      have f4 : ∀ x : HeldW (HoldS (w10.alloc (.cells #[.int .u64 r.stamp, .int .i64 r.gen, .int .i64 r.no, .int .i64 r.idx, .int .i64 r.tot, .string r.data] 30)) (cs13 w9.heap.size w10.heap.size r) (fun _ => True)), x.w.cell? ⟨w9.heap.size, 4, none⟩ = some (.int .i64 r.tot) := fun x => x.at_ 4 rfl
      have f5 : ∀ x : HeldW (HoldS (w10.alloc (.cells #[.int .u64 r.stamp, .int .i64 r.gen, .int .i64 r.no, .int .i64 r.idx, .int .i64 r.tot, .string r.data] 30)) (cs13 w9.heap.size w10.heap.size r) (fun _ => True)), x.w.cell? ⟨w9.heap.size, 5, none⟩ = some (.string r.data) := fun x => x.at_ 5 rfl
      have f6 : ∀ x : HeldW (HoldS (w10.alloc (.cells #[.int .u64 r.stamp, .int .i64 r.gen, .int .i64 r.no, .int .i64 r.idx, .int .i64 r.tot, .string r.data] 30)) (cs13 w9.heap.size w10.heap.size r) (fun _ => True)), x.w.cell? ⟨w10.heap.size, 0, none⟩ = some (.int .u64 r.stamp) := fun x => x.at_ 6 rfl
      have f7 : ∀ x : HeldW (HoldS (w10.alloc (.cells #[.int .u64 r.stamp, .int .i64 r.gen, .int .i64 r.no, .int .i64 r.idx, .int .i64 r.tot, .string r.data] 30)) (cs13 w9.heap.size w10.heap.size r) (fun _ => True)), x.w.cell? ⟨w10.heap.size, 1, none⟩ = some (.int .i64 r.gen) := fun x => x.at_ 7 rfl
      have f8 : ∀ x : HeldW (HoldS (w10.alloc (.cells #[.int .u64 r.stamp, .int .i64 r.gen, .int .i64 r.no, .int .i64 r.idx, .int .i64 r.tot, .string r.data] 30)) (cs13 w9.heap.size w10.heap.size r) (fun _ => True)), x.w.cell? ⟨w10.heap.size, 2, none⟩ = some (.int .i64 r.no) := fun x => x.at_ 8 rfl
      have f9 : ∀ x : HeldW (HoldS (w10.alloc (.cells #[.int .u64 r.stamp, .int .i64 r.gen, .int .i64 r.no, .int .i64 r.idx, .int .i64 r.tot, .string r.data] 30)) (cs13 w9.heap.size w10.heap.size r) (fun _ => True)), x.w.cell? ⟨w10.heap.size, 3, none⟩ = some (.int .i64 r.idx) := fun x => x.at_ 9 rfl
      have f10 : ∀ x : HeldW (HoldS (w10.alloc (.cells #[.int .u64 r.stamp, .int .i64 r.gen, .int .i64 r.no, .int .i64 r.idx, .int .i64 r.tot, .string r.data] 30)) (cs13 w9.heap.size w10.heap.size r) (fun _ => True)), x.w.cell? ⟨w10.heap.size, 4, none⟩ = some (.int .i64 r.tot) := fun x => x.at_ 10 rfl
      have f11 : ∀ x : HeldW (HoldS (w10.alloc (.cells #[.int .u64 r.stamp, .int .i64 r.gen, .int .i64 r.no, .int .i64 r.idx, .int .i64 r.tot, .string r.data] 30)) (cs13 w9.heap.size w10.heap.size r) (fun _ => True)), x.w.cell? ⟨w10.heap.size, 5, none⟩ = some (.string r.data) := fun x => x.at_ 11 rfl
      repeat (go_big_quiet_step (first | (go_at_call 10; refine kept_of (HoldS.keep keepTrue) (like_is _ _ _ _ _ _ _))))
      refine wpQuiet_nil ?_
      rintro w99 ⟨⟨_, hq9⟩, rfl⟩
      obtain ⟨_, _, hb99⟩ := hq9
      have HB99 := Lib.hid (below_step (HB10.out.alloc HB10.out.size (.cells #[.int .u64 r.stamp, .int .i64 r.gen, .int .i64 r.no, .int .i64 r.idx, .int .i64 r.tot, .string r.data] 30)) hb99)
      clear f0 f1 f2 f3 f4 f5 f6 f7 f8 f9 f10 f11 hne HK hb99 HB10
      go_wp2_with fail
      refine bodyPost_ret (v := .bool true) (by simp [results, Try.results3, go_sem]) rfl ⟨rfl, ?_⟩
      exact HB99.out
end Go.Proofs.Ytblmempidngcgaa
