/-
  What a roster's May and Find answer. No conditions but how the roster lies in memory.
-/
import Derived.Test.YtnehcaefafdiaaaRosterG
import Derived.WalkKit
namespace Go.Proofs.Ytnehcaefafdiaaa
open Go.RowKit

section
variable {R n m : Nat} {lv st pt al au : Nat → Int} {w : World}

/-- What is held while Find's list and label are read. -/
def FindS (w : World) (R : Nat) (A : Option Addr) (n c : Nat) (lv st : Nat → Int) (l s : Int) (W : World) : Prop :=
  W.cell? ⟨R, 0, none⟩ = some (.slice A n c) ∧ W.cell? ⟨w.heap.size, 0, none⟩ = some (.int .i64 l) ∧ W.cell? ⟨w.heap.size, 1, none⟩ = some (.int .u16 s) ∧ LabsAt W A n lv st ∧ Below w.heap.size w W
theorem FindS.keep {w : World} {R : Nat} {A : Option Addr} {n c : Nat} {lv st : Nat → Int} {l s : Int} : ∀ v v', FindS w R A n c lv st l s v → Below v.heap.size v v' → FindS w R A n c lv st l s v' :=
  fun _ _ ⟨a, b, c, d, e⟩ hb => ⟨cell_later hb a, cell_later hb b, cell_later hb c, d.later hb, below_step e hb⟩

set_option maxHeartbeats 400000 in
theorem find_is (h : RosAt w R n m lv st pt al au) (l s : Int) :
    Calls Try.prog 18 #[.pointer (some ⟨R, 0, none⟩), .agg #[.int .i64 l, .int .u16 s]] w fun e w' => e = .returned (.int .i64 (firstN (fun i => sameB l s (lv i) (st i)) n)) ∧ Below w.heap.size w w' := by
  obtain ⟨A, c, B, d, h1, h2, h3, h4, h5, h6⟩ := h
  have HS := Lib.hid (show FindS w R A n c lv st l s (w.alloc (.cells #[.int .i64 l, .int .u16 s] 26)).drew from
    ⟨cell_alloc h1, by simp [go_sem], by simp [go_sem], h3.alloc _, ((Below.refl _ _).alloc (Nat.le_refl _) _).drew⟩)
  have n4 : n ≤ 64 := by omega
  clear h1 h2 h3 h4
  go_enter Try.func18, Try.ntmps18
  go_wp2_with fail
  refine wp_region_kept (FindS w R A n c lv st l s) (by kernel_rfl) (by kernel_rfl) HS.out ?_
  intro hne
  have f0 : ∀ x : HeldW (FindS w R A n c lv st l s), x.w.cell? ⟨R, 0, none⟩ = some (.slice A n c) := fun x => x.ok.1
  have f1 : ∀ x : HeldW (FindS w R A n c lv st l s), x.w.cell? ⟨w.heap.size, 0, none⟩ = some (.int .i64 l) := fun x => x.ok.2.1
  have f2 : ∀ x : HeldW (FindS w R A n c lv st l s), x.w.cell? ⟨w.heap.size, 1, none⟩ = some (.int .u16 s) := fun x => x.ok.2.2.1
  repeat (go_big_quiet_step ((go_at_call 34; rename_i x; refine kept_of FindS.keep (index_is x.ok.2.2.2.1 n4 _ _))))
  refine wpQuiet_nil ?_
  rintro _ ⟨⟨wq, hq⟩, rfl⟩
  obtain ⟨_, _, _, _, hbq⟩ := hq
  clear f0 f1 f2 hne
  go_wp2_with fail
  go_ret
  exact ⟨rfl, hbq⟩

set_option maxHeartbeats 400000 in
theorem find_nil (l s : Int) (w : World) :
    Calls Try.prog 18 #[.pointer none, .agg #[.int .i64 l, .int .u16 s]] w fun e w' => e = .returned (.int .i64 (-1)) ∧ Below w.heap.size w w' := by
  go_enter Try.func18, Try.ntmps18
  go_wp2_with fail
  go_ret
  exact ⟨rfl, (Below.refl _ _).alloc (Nat.le_refl _) _⟩

/-- What is held while May's labels are read: o, the block of its own label. -/
def MayS (w : World) (R o : Nat) (ad : Addr) (m d i : Nat) (a b l s x y : Int) (W : World) : Prop :=
  W.cell? ⟨R, 1, none⟩ = some (.slice (some ad) m d) ∧ W.cell? ⟨w.heap.size, 0, none⟩ = some (.int .i64 l) ∧ W.cell? ⟨w.heap.size, 1, none⟩ = some (.int .u16 s) ∧
  W.cell? ⟨o, 0, none⟩ = some (.int .i64 x) ∧ W.cell? ⟨o, 1, none⟩ = some (.int .u16 y) ∧
  W.cell? ⟨(ad.add (i * 3)).block, (ad.add (i * 3)).off + 1, none⟩ = some (.int .i64 a) ∧ W.cell? ⟨(ad.add (i * 3)).block, (ad.add (i * 3)).off + 1 + 1, none⟩ = some (.int .u16 b) ∧ Below w.heap.size w W
theorem MayS.keep {w : World} {R o : Nat} {ad : Addr} {m d i : Nat} {a b l s x y : Int} : ∀ v v', MayS w R o ad m d i a b l s x y v → Below v.heap.size v v' → MayS w R o ad m d i a b l s x y v' :=
  fun _ _ ⟨a, b, c, d, e, f, g, k⟩ hb => ⟨cell_later hb a, cell_later hb b, cell_later hb c, cell_later hb d, cell_later hb e, cell_later hb f, cell_later hb g, below_step k hb⟩

set_option maxHeartbeats 1000000 in
theorem may_is (h : RosAt w R n m lv st pt al au) (who l s : Int) :
    Calls Try.prog 16 #[.pointer (some ⟨R, 0, none⟩), .int .i64 who, .agg #[.int .i64 l, .int .u16 s]] w fun e w' => e = .returned (.bool (mayB n m lv st pt al au who l s)) ∧ Below w.heap.size w w' := by
  have HV := Lib.hid (show mayB n m lv st pt al au who l s = (thereB (partV m pt who) n && leqB (offL (labV n lv (partV m pt who)) l) (offS (labV n st (partV m pt who)) s) (al who.toNat) (au who.toNat)) from rfl)
  have HR := Lib.hid (h.alloc (.cells #[.int .i64 l, .int .u16 s] 26))
  have hL : ∀ W, RosAt W R n m lv st pt al au → ∀ p : Int, Calls Try.prog 12 #[.pointer (some ⟨R, 0, none⟩), .int .i64 p] W fun e w' => e = .returned (.tuple #[.agg #[.int .i64 (labV n lv p), .int .u16 (labV n st p)], .bool (thereB p n)]) ∧ Below W.heap.size W w' := fun W hW p => label_is hW p
  have HL := Lib.hid hL
  clear h hL
  generalize hv : mayB n m lv st pt al au who l s = v at HV ⊢
  clear hv
  cases t0 : thereB who m
  · have HO := Lib.hid (show partV m pt who = -1 by simp [partV, t0])
    have t1 : thereB (-1) n = false := by simp [thereB]
    have hv := HV.out
    rw [HO.out, t1] at hv
    simp only [Bool.false_and] at hv
    subst hv
    go_enter Try.func16, Try.ntmps16
    go_wp2_with fail
    refine (part_is HR.out _).mono ?_
    rintro e w0 ⟨rfl, rfl⟩
    rw [HO.out]
    go_wp2_with fail
    refine (HL.out _ HR.out (-1)).mono ?_
    rintro e w1 ⟨rfl, hb1⟩
    rw [t1]
    have hB1 := below_step ((Below.refl w.heap.size w).alloc (Nat.le_refl _) _) hb1
    have hB2 := hB1.alloc hB1.size (.cells #[.int .i64 (labV n lv (-1)), .int .u16 (labV n st (-1))] 26)
    clear hb1 hB1
    go_wp2_with fail
    go_quiet (fail)
    go_wp2_with fail
    go_ret
    exact ⟨rfl, below_drewN hB2 _⟩
  · obtain ⟨i, hi, rfl⟩ := there_nat t0
    have HO := Lib.hid (show partV m pt i = pt i by simp [partV, t0])
    have hv := HV.out
    rw [HO.out] at hv
    have e1 : ((i : Int).toNat) = i := by omega
    rw [e1] at hv
    clear HV e1
    generalize pt i = own at hv HO
    cases t1 : thereB own n
    · rw [t1] at hv
      simp only [Bool.false_and] at hv
      subst hv
      go_enter Try.func16, Try.ntmps16
      go_wp2_with fail
      refine (part_is HR.out _).mono ?_
      rintro e w0 ⟨rfl, rfl⟩
      rw [HO.out]
      go_wp2_with fail
      refine (HL.out _ HR.out own).mono ?_
      rintro e w1 ⟨rfl, hb1⟩
      rw [t1]
      have hB1 := below_step ((Below.refl w.heap.size w).alloc (Nat.le_refl _) _) hb1
      have hB2 := hB1.alloc hB1.size (.cells #[.int .i64 (labV n lv own), .int .u16 (labV n st own)] 26)
      clear hb1 hB1
      go_wp2_with fail
      go_quiet (fail)
      go_wp2_with fail
      go_ret
      exact ⟨rfl, below_drewN hB2 _⟩
    · rw [t1] at hv
      simp only [Bool.true_and] at hv
      subst hv
      go_enter Try.func16, Try.ntmps16
      go_wp2_with fail
      refine (part_is HR.out _).mono ?_
      rintro e w0 ⟨rfl, rfl⟩
      rw [HO.out]
      go_wp2_with fail
      refine (HL.out _ HR.out own).mono ?_
      rintro e w1 ⟨rfl, hb1⟩
      rw [t1]
      have hB1 := below_step ((Below.refl w.heap.size w).alloc (Nat.le_refl _) (.cells #[.int .i64 l, .int .u16 s] 26)) hb1
      have hB2 := hB1.alloc hB1.size (.cells #[.int .i64 (labV n lv own), .int .u16 (labV n st own)] 26)
      obtain ⟨A, c, B, d, h1, h2, h3, h4, h5, h6⟩ := (HR.out.later hb1).alloc (.cells #[.int .i64 (labV n lv own), .int .u16 (labV n st own)] 26)
      obtain ⟨ad, rfl, p0, p1, p2⟩ := h4.at_ hi
      have HS := Lib.hid (show MayS w R w1.heap.size ad m d i (al i) (au i) l s (labV n lv own) (labV n st own) (w1.alloc (.cells #[.int .i64 (labV n lv own), .int .u16 (labV n st own)] 26)).drew from
        ⟨h2, cell_alloc (cell_later hb1 (by simp [go_sem])), cell_alloc (cell_later hb1 (by simp [go_sem])), by simp [go_sem], by simp [go_sem], p1, p2, hB2.drew⟩)
      clear hb1 hB1 hB2 h1 h2 h3 h4 p0 p1 p2
      have i1 : (0 : Int) ≤ i := by omega
      have i2 : (i : Int) < m := by omega
      go_wp2_with fail
      refine wp_region_kept (MayS w R w1.heap.size ad m d i (al i) (au i) l s (labV n lv own) (labV n st own)) (by kernel_rfl) (by kernel_rfl) HS.out ?_
      intro hne
      have f0 : ∀ x : HeldW (MayS w R w1.heap.size ad m d i (al i) (au i) l s (labV n lv own) (labV n st own)), x.w.cell? ⟨R, 1, none⟩ = some (.slice (some ad) m d) := fun x => x.ok.1
      have f1 : ∀ x : HeldW (MayS w R w1.heap.size ad m d i (al i) (au i) l s (labV n lv own) (labV n st own)), x.w.cell? ⟨w.heap.size, 0, none⟩ = some (.int .i64 l) := fun x => x.ok.2.1
      have f2 : ∀ x : HeldW (MayS w R w1.heap.size ad m d i (al i) (au i) l s (labV n lv own) (labV n st own)), x.w.cell? ⟨w.heap.size, 1, none⟩ = some (.int .u16 s) := fun x => x.ok.2.2.1
      have f3 : ∀ x : HeldW (MayS w R w1.heap.size ad m d i (al i) (au i) l s (labV n lv own) (labV n st own)), x.w.cell? ⟨w1.heap.size, 0, none⟩ = some (.int .i64 (labV n lv own)) := fun x => x.ok.2.2.2.1
      have f4 : ∀ x : HeldW (MayS w R w1.heap.size ad m d i (al i) (au i) l s (labV n lv own) (labV n st own)), x.w.cell? ⟨w1.heap.size, 1, none⟩ = some (.int .u16 (labV n st own)) := fun x => x.ok.2.2.2.2.1
      have f5 : ∀ x : HeldW (MayS w R w1.heap.size ad m d i (al i) (au i) l s (labV n lv own) (labV n st own)), x.w.cell? ⟨(ad.add (i * 3)).block, (ad.add (i * 3)).off + 1, none⟩ = some (.int .i64 (al i)) := fun x => x.ok.2.2.2.2.2.1
      have f6 : ∀ x : HeldW (MayS w R w1.heap.size ad m d i (al i) (au i) l s (labV n lv own) (labV n st own)), x.w.cell? ⟨(ad.add (i * 3)).block, (ad.add (i * 3)).off + 1 + 1, none⟩ = some (.int .u16 (au i)) := fun x => x.ok.2.2.2.2.2.2.1
      repeat (go_big_quiet_step (first | (go_at_call 32; rename_i x; refine kept_of MayS.keep (off_is _ _ _ _ _)) | (go_at_call 31; rename_i x; refine kept_of MayS.keep (over_is _ _ _ _ _ rfl _))))
      refine wpQuiet_nil ?_
      rintro _ ⟨⟨wq, hq⟩, rfl⟩
      obtain ⟨_, _, _, _, _, _, _, hbq⟩ := hq
      clear f0 f1 f2 f3 f4 f5 f6 hne
      go_wp2_with fail
      go_ret
      exact ⟨rfl, hbq⟩

set_option maxHeartbeats 400000 in
theorem may_nil (who l s : Int) (w : World) :
    Calls Try.prog 16 #[.pointer none, .int .i64 who, .agg #[.int .i64 l, .int .u16 s]] w fun e w' => e = .returned (.bool false) ∧ Below w.heap.size w w' := by
  go_enter Try.func16, Try.ntmps16
  go_wp2_with fail
  refine (part_nil _ _).mono ?_
  rintro e w0 ⟨rfl, rfl⟩
  go_wp2_with fail
  refine (label_nil _ _).mono ?_
  rintro e w1 ⟨rfl, hb1⟩
  have hB1 := below_step ((Below.refl w.heap.size w).alloc (Nat.le_refl _) _) hb1
  have hB2 := hB1.alloc hB1.size (.cells #[.int .i64 0, .int .u16 0] 26)
  clear hb1 hB1
  go_wp2_with fail
  go_quiet (fail)
  go_wp2_with fail
  go_ret
  exact ⟨rfl, below_drewN hB2 _⟩

end
end Go.Proofs.Ytnehcaefafdiaaa
