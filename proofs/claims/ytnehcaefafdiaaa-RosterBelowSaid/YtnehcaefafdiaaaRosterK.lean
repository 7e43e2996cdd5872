/-
  What the document's Below, Sees and May (package lockageref02) answer. Conditions: how the lists lie in memory; each principal's partition is there; sets are numbers from 0 to 65535.
-/
import Derived.Test.YtnehcaefafdiaaaRosterJ
import Derived.WalkKit
import Derived.OwnWalk
namespace Go.Proofs.Ytnehcaefafdiaaa
open Go.RowKit

section
variable {A B : Option Addr} {n m c d : Nat} {lv st pt al au : Nat → Int} {w : World}

set_option maxHeartbeats 1000000 in
theorem refbelow_is (h : LabsAt w A n lv st) (hn : n ≤ 64) (hst : ∀ i, i < n → SetN (st i)) (l s : Int) (hs : SetN s) :
    Calls Try.prog 22 #[.slice A n c, .agg #[.int .i64 l, .int .u16 s]] w (IntsOut w (belowL (fun i => leqB (lv i) (st i) l s) n)) := by
  obtain ⟨i0, hi, hz0, hz1, hz2⟩ := info_parts info_int
  have HL := Lib.hid (h.alloc (.cells #[.int .i64 l, .int .u16 s] 26))
  have HT := Lib.hid hst
  have HS := Lib.hid hs
  have b0 : (w.alloc (.cells #[.int .i64 l, .int .u16 s] 26)).cell? ⟨w.heap.size, 0, none⟩ = some (.int .i64 l) := by simp [go_sem]
  have b1 : (w.alloc (.cells #[.int .i64 l, .int .u16 s] 26)).cell? ⟨w.heap.size, 1, none⟩ = some (.int .u16 s) := by simp [go_sem]
  have hW : Below w.heap.size w (w.alloc (.cells #[.int .i64 l, .int .u16 s] 26)) := (Below.refl _ _).alloc (Nat.le_refl _) _
  clear h hst hs
  go_enter Try.func22, Try.ntmps22
  go_wp2_with fail
  generalize w.alloc (.cells #[.int .i64 l, .int .u16 s] 26) = W at *
  go_loopw [5, 6] (CollRel W (fun i => leqB (lv i) (st i) l s) n) (fun _ i _ => n - (intOf i).toNat)
  case atStart => exact ⟨0, by omega, rfl, World.ownsRow_nil _ _ _ _, Below.refl _ _⟩
  case round =>
    obtain ⟨k, hk, rfl, hown, hB⟩ := hrel
    by_cases hlt : k < n
    · obtain ⟨ad, rfl, c0, c1⟩ := (HL.out.later hB).at_ hlt
      have HK := Lib.hid (show (HoldS wr [(⟨w.heap.size, 0, none⟩, .int .i64 l), (⟨w.heap.size, 1, none⟩, .int .u16 s), ((ad.add (k * 2)), .int .i64 (lv k)), (⟨(ad.add (k * 2)).block, (ad.add (k * 2)).off + 1, none⟩, .int .u16 (st k))] (fun _ => True)) (wr).drew from ⟨(cc (cell_later (w := W) hB.drew b0) (cc (cell_later (w := W) hB.drew b1) (cc c0 (cc c1 cn)))), trivial, (Below.refl _ _).drew⟩)
      have hlen := belowL_len (fun i => leqB (lv i) (st i) l s) k
      have HO := Lib.hid hown
      clear hown c0 c1
      cases hs : leqB (lv k) (st k) l s
      · go_wp2_with fail
        refine wp_region_kept _ (by kernel_rfl) (by kernel_rfl) HK.out ?_
        intro hne
        have f0 : ∀ x : HeldW (HoldS wr [(⟨w.heap.size, 0, none⟩, .int .i64 l), (⟨w.heap.size, 1, none⟩, .int .u16 s), ((ad.add (k * 2)), .int .i64 (lv k)), (⟨(ad.add (k * 2)).block, (ad.add (k * 2)).off + 1, none⟩, .int .u16 (st k))] (fun _ => True)), x.w.cell? ⟨w.heap.size, 0, none⟩ = some (.int .i64 l) := fun x => x.at_ 0 rfl
        have f1 : ∀ x : HeldW (HoldS wr [(⟨w.heap.size, 0, none⟩, .int .i64 l), (⟨w.heap.size, 1, none⟩, .int .u16 s), ((ad.add (k * 2)), .int .i64 (lv k)), (⟨(ad.add (k * 2)).block, (ad.add (k * 2)).off + 1, none⟩, .int .u16 (st k))] (fun _ => True)), x.w.cell? ⟨w.heap.size, 1, none⟩ = some (.int .u16 s) := fun x => x.at_ 1 rfl
        have f2 : ∀ x : HeldW (HoldS wr [(⟨w.heap.size, 0, none⟩, .int .i64 l), (⟨w.heap.size, 1, none⟩, .int .u16 s), ((ad.add (k * 2)), .int .i64 (lv k)), (⟨(ad.add (k * 2)).block, (ad.add (k * 2)).off + 1, none⟩, .int .u16 (st k))] (fun _ => True)), x.w.cell? (ad.add (k * 2)) = some (.int .i64 (lv k)) := fun x => x.at_ 2 rfl
        have f3 : ∀ x : HeldW (HoldS wr [(⟨w.heap.size, 0, none⟩, .int .i64 l), (⟨w.heap.size, 1, none⟩, .int .u16 s), ((ad.add (k * 2)), .int .i64 (lv k)), (⟨(ad.add (k * 2)).block, (ad.add (k * 2)).off + 1, none⟩, .int .u16 (st k))] (fun _ => True)), x.w.cell? ⟨(ad.add (k * 2)).block, (ad.add (k * 2)).off + 1, none⟩ = some (.int .u16 (st k)) := fun x => x.at_ 3 rfl
        repeat (go_big_quiet_step (((go_at_call 23; refine kept_of (HoldS.keep keepTrue) (refleq_is _ _ _ _ (HT.out k hlt) HS.out false hs _)))))
        refine wpQuiet_nil ?_
        rintro w1 ⟨⟨_, hq⟩, rfl⟩
        obtain ⟨hcs, _, hb⟩ := hq
        clear f0 f1 f2 f3 hne hcs
        go_wp2_with fail
        have hB1 := below_step hB hb
        have ho1 := own_later HO.out hb
        go_roundw
        case rel => exact coll_no (p := fun i => leqB (lv i) (st i) l s) hlt hs ho1 hB1
        case measure => simp [intOf]; omega
      · go_wp2_with fail
        refine wp_region_kept _ (by kernel_rfl) (by kernel_rfl) HK.out ?_
        intro hne
        have f0 : ∀ x : HeldW (HoldS wr [(⟨w.heap.size, 0, none⟩, .int .i64 l), (⟨w.heap.size, 1, none⟩, .int .u16 s), ((ad.add (k * 2)), .int .i64 (lv k)), (⟨(ad.add (k * 2)).block, (ad.add (k * 2)).off + 1, none⟩, .int .u16 (st k))] (fun _ => True)), x.w.cell? ⟨w.heap.size, 0, none⟩ = some (.int .i64 l) := fun x => x.at_ 0 rfl
        have f1 : ∀ x : HeldW (HoldS wr [(⟨w.heap.size, 0, none⟩, .int .i64 l), (⟨w.heap.size, 1, none⟩, .int .u16 s), ((ad.add (k * 2)), .int .i64 (lv k)), (⟨(ad.add (k * 2)).block, (ad.add (k * 2)).off + 1, none⟩, .int .u16 (st k))] (fun _ => True)), x.w.cell? ⟨w.heap.size, 1, none⟩ = some (.int .u16 s) := fun x => x.at_ 1 rfl
        have f2 : ∀ x : HeldW (HoldS wr [(⟨w.heap.size, 0, none⟩, .int .i64 l), (⟨w.heap.size, 1, none⟩, .int .u16 s), ((ad.add (k * 2)), .int .i64 (lv k)), (⟨(ad.add (k * 2)).block, (ad.add (k * 2)).off + 1, none⟩, .int .u16 (st k))] (fun _ => True)), x.w.cell? (ad.add (k * 2)) = some (.int .i64 (lv k)) := fun x => x.at_ 2 rfl
        have f3 : ∀ x : HeldW (HoldS wr [(⟨w.heap.size, 0, none⟩, .int .i64 l), (⟨w.heap.size, 1, none⟩, .int .u16 s), ((ad.add (k * 2)), .int .i64 (lv k)), (⟨(ad.add (k * 2)).block, (ad.add (k * 2)).off + 1, none⟩, .int .u16 (st k))] (fun _ => True)), x.w.cell? ⟨(ad.add (k * 2)).block, (ad.add (k * 2)).off + 1, none⟩ = some (.int .u16 (st k)) := fun x => x.at_ 3 rfl
        repeat (go_big_quiet_step (((go_at_call 23; refine kept_of (HoldS.keep keepTrue) (refleq_is _ _ _ _ (HT.out k hlt) HS.out true hs _)))))
        refine wpQuiet_nil ?_
        rintro w1 ⟨⟨_, hq⟩, rfl⟩
        obtain ⟨hcs, _, hb⟩ := hq
        clear f0 f1 f2 f3 hne hcs
        have hB1 := below_step hB hb
        have HO1 := Lib.hid (own_later HO.out hb)
        go_wp2_with (at_builtin; go_loud (refine wpList_append_own _ rfl _ _ 46 rfl W.heap.size 3 i0 _ 1 8 Try.underlying46 hi hz0 hz1 hz2 rfl (by omega) u5 (belowL (fun i => leqB (lv i) (st i) l s) k).length ((belowL (fun i => leqB (lv i) (st i) l s) k).map (Value.int .i64)) rfl (HO1.out.alloc _) ⟨w1.heap.size, 0, none⟩ 1 1 [.int .i64 (k : Int)] rfl rfl (one_cell_new w1 _ _) (by simp [Value.oneCell']) (by unfold maxLen; omega) (by omega) (by have := hB1.size; simp; omega) ?_); intro v2 w2 hown2 hg2 _)
        have hB2 := (hB1.alloc hB1.size _).grown hg2 (by have := hB1.size; simp; omega) (fun q hq => (HO.out.lt q hq).1)
        go_roundw
        case rel => exact coll_yes (p := fun i => leqB (lv i) (st i) l s) hlt hs hown2 hB2
        case measure => simp [intOf]; omega
    · obtain rfl : k = n := by omega
      go_wp2_with fail
      obtain ⟨A', c', rfl, hints⟩ := ints_of_own hown
      go_ret
      exact ⟨A', c', rfl, hints, below_step hW hB⟩

theorem sees_off {who part : Int} (h : thereB who m = false ∨ thereB part n = false) : seesB n m lv st pt who part = false := by
  unfold seesB
  rcases h with h | h
  · have e : partV m pt who = -1 := by simp [partV, h]
    rw [e]
    simp [thereB]
  · simp [h]
theorem sees_on {i j q : Nat} (hi : i < m) (hj : j < n) (hq : q < n) (e : pt i = q) : seesB n m lv st pt i j = leqB (lv j) (st j) (lv q) (st q) := by
  simp [seesB, partV, labV, there_of hi, there_of hj, e, there_of hq]

set_option maxHeartbeats 1000000 in
theorem refsees_is (hl : LabsAt w A n lv st) (hp : PepsAt w B m pt al au) (hin : ∀ i, i < m → thereB (pt i) n = true) (hst : ∀ i, i < n → SetN (st i)) (who part : Int) :
    Calls Try.prog 15 #[.slice A n c, .slice B m d, .int .i64 who, .int .i64 part] w fun e w' => e = .returned (.bool (seesB n m lv st pt who part)) ∧ Below w.heap.size w w' := by
  have HIN := Lib.hid hin
  have HST := Lib.hid hst
  clear hin hst
  by_cases w0 : (0 : Int) ≤ who
  · by_cases w1 : who < (m : Int)
    · by_cases p0 : (0 : Int) ≤ part
      · by_cases p1 : part < (n : Int)
        · obtain ⟨i, rfl⟩ : ∃ i : Nat, who = i := ⟨who.toNat, by omega⟩
          obtain ⟨j, rfl⟩ : ∃ j : Nat, part = j := ⟨part.toNat, by omega⟩
          have hi : i < m := by omega
          have hj : j < n := by omega
          obtain ⟨q, hq, eq⟩ := there_nat (HIN.out i hi)
          rw [sees_on hi hj hq eq]
          obtain ⟨bd, rfl, c0, _, _⟩ := hp.at_ hi
          obtain ⟨ad, rfl, c1, c2⟩ := hl.at_ hj
          obtain ⟨ad', e', c3, c4⟩ := hl.at_ hq
          injection e' with e'
          subst e'
          rw [eq] at c0
          have s1 := Lib.hid (HST.out j hj)
          have s2 := Lib.hid (HST.out q hq)
          have HK := Lib.hid (show (HoldS w [((bd.add (i * 3)), .int .i64 (q : Int)), ((ad.add (j * 2)), .int .i64 (lv j)), (⟨(ad.add (j * 2)).block, (ad.add (j * 2)).off + 1, none⟩, .int .u16 (st j)), ((ad.add (q * 2)), .int .i64 (lv q)), (⟨(ad.add (q * 2)).block, (ad.add (q * 2)).off + 1, none⟩, .int .u16 (st q))] (fun _ => True)) (w).drew from ⟨(cc c0 (cc c1 (cc c2 (cc c3 (cc c4 cn))))), trivial, (Below.refl _ _).drew⟩)
          clear c0 c1 c2 c3 c4 hl hp eq w0 w1 p0 p1
          go_enter Try.func15, Try.ntmps15
          go_wp2_with fail
          refine wp_region_kept _ (by kernel_rfl) (by kernel_rfl) HK.out ?_
          intro hne
          have f0 : ∀ x : HeldW (HoldS w [((bd.add (i * 3)), .int .i64 (q : Int)), ((ad.add (j * 2)), .int .i64 (lv j)), (⟨(ad.add (j * 2)).block, (ad.add (j * 2)).off + 1, none⟩, .int .u16 (st j)), ((ad.add (q * 2)), .int .i64 (lv q)), (⟨(ad.add (q * 2)).block, (ad.add (q * 2)).off + 1, none⟩, .int .u16 (st q))] (fun _ => True)), x.w.cell? (bd.add (i * 3)) = some (.int .i64 (q : Int)) := fun x => x.at_ 0 rfl
          have f1 : ∀ x : HeldW (HoldS w [((bd.add (i * 3)), .int .i64 (q : Int)), ((ad.add (j * 2)), .int .i64 (lv j)), (⟨(ad.add (j * 2)).block, (ad.add (j * 2)).off + 1, none⟩, .int .u16 (st j)), ((ad.add (q * 2)), .int .i64 (lv q)), (⟨(ad.add (q * 2)).block, (ad.add (q * 2)).off + 1, none⟩, .int .u16 (st q))] (fun _ => True)), x.w.cell? (ad.add (j * 2)) = some (.int .i64 (lv j)) := fun x => x.at_ 1 rfl
          have f2 : ∀ x : HeldW (HoldS w [((bd.add (i * 3)), .int .i64 (q : Int)), ((ad.add (j * 2)), .int .i64 (lv j)), (⟨(ad.add (j * 2)).block, (ad.add (j * 2)).off + 1, none⟩, .int .u16 (st j)), ((ad.add (q * 2)), .int .i64 (lv q)), (⟨(ad.add (q * 2)).block, (ad.add (q * 2)).off + 1, none⟩, .int .u16 (st q))] (fun _ => True)), x.w.cell? ⟨(ad.add (j * 2)).block, (ad.add (j * 2)).off + 1, none⟩ = some (.int .u16 (st j)) := fun x => x.at_ 2 rfl
          have f3 : ∀ x : HeldW (HoldS w [((bd.add (i * 3)), .int .i64 (q : Int)), ((ad.add (j * 2)), .int .i64 (lv j)), (⟨(ad.add (j * 2)).block, (ad.add (j * 2)).off + 1, none⟩, .int .u16 (st j)), ((ad.add (q * 2)), .int .i64 (lv q)), (⟨(ad.add (q * 2)).block, (ad.add (q * 2)).off + 1, none⟩, .int .u16 (st q))] (fun _ => True)), x.w.cell? (ad.add (q * 2)) = some (.int .i64 (lv q)) := fun x => x.at_ 3 rfl
          have f4 : ∀ x : HeldW (HoldS w [((bd.add (i * 3)), .int .i64 (q : Int)), ((ad.add (j * 2)), .int .i64 (lv j)), (⟨(ad.add (j * 2)).block, (ad.add (j * 2)).off + 1, none⟩, .int .u16 (st j)), ((ad.add (q * 2)), .int .i64 (lv q)), (⟨(ad.add (q * 2)).block, (ad.add (q * 2)).off + 1, none⟩, .int .u16 (st q))] (fun _ => True)), x.w.cell? ⟨(ad.add (q * 2)).block, (ad.add (q * 2)).off + 1, none⟩ = some (.int .u16 (st q)) := fun x => x.at_ 4 rfl
          repeat (go_big_quiet_step (((go_at_call 23; refine kept_of (HoldS.keep keepTrue) (refleq_is _ _ _ _ s1.out s2.out _ rfl _)))))
          refine wpQuiet_nil ?_
          rintro w1 ⟨⟨_, hq⟩, rfl⟩
          obtain ⟨hcs, _, hb⟩ := hq
          clear f0 f1 f2 f3 f4 hne hcs
          go_wp2_with fail
          go_ret
          exact ⟨rfl, hb⟩
        · rw [sees_off (n := n) (.inr (by simp [thereB]; omega))]
          have q1 : decide (part < (n : Int)) = false := by simpa using p1
          have q2 : decide (who < (m : Int)) = true := by simpa using w1
          have q3 : decide ((0 : Int) ≤ part) = true := by simpa using p0
          clear hl hp
          go_enter Try.func15, Try.ntmps15
          go_wp2_with fail
          go_quiet (fail)
          go_wp2_with fail
          go_ret
          exact ⟨rfl, below_drewN (Below.refl _ _) _⟩
      · rw [sees_off (n := n) (.inr (by simp [thereB]; omega))]
        have q1 : decide ((0 : Int) ≤ part) = false := by simpa using p0
        have q2 : decide (who < (m : Int)) = true := by simpa using w1
        clear hl hp
        go_enter Try.func15, Try.ntmps15
        go_wp2_with fail
        go_quiet (fail)
        go_wp2_with fail
        go_ret
        exact ⟨rfl, below_drewN (Below.refl _ _) _⟩
    · rw [sees_off (m := m) (.inl (by simp [thereB]; omega))]
      have q1 : decide (who < (m : Int)) = false := by simpa using w1
      have q2 : decide ((0 : Int) ≤ who) = true := by simpa using w0
      clear hl hp
      go_enter Try.func15, Try.ntmps15
      go_wp2_with fail
      go_quiet (fail)
      go_wp2_with fail
      go_ret
      exact ⟨rfl, below_drewN (Below.refl _ _) _⟩
  · rw [sees_off (m := m) (.inl (by simp [thereB]; omega))]
    have q1 : decide ((0 : Int) ≤ who) = false := by simpa using w0
    clear hl hp
    go_enter Try.func15, Try.ntmps15
    go_wp2_with fail
    go_quiet (fail)
    go_wp2_with fail
    go_ret
    exact ⟨rfl, below_drewN (Below.refl _ _) _⟩

theorem may_off {who l s : Int} (h : thereB who m = false) : mayB n m lv st pt al au who l s = false := by
  have e : partV m pt who = -1 := by simp [partV, h]
  unfold mayB
  rw [e]
  simp [thereB]
theorem may_on {i q : Nat} {l s : Int} (hi : i < m) (hq : q < n) (e : pt i = q) : mayB n m lv st pt al au i l s = leqB (offL (lv q) l) (offS (st q) s) (al i) (au i) := by
  simp [mayB, partV, labV, there_of hi, e, there_of hq]

set_option maxHeartbeats 1000000 in
theorem refmay_is (hl : LabsAt w A n lv st) (hp : PepsAt w B m pt al au) (hin : ∀ i, i < m → thereB (pt i) n = true) (hst : ∀ i, i < n → SetN (st i)) (hau : ∀ i, i < m → SetN (au i)) (who l s : Int) (hs : SetN s) :
    Calls Try.prog 17 #[.slice A n c, .slice B m d, .int .i64 who, .agg #[.int .i64 l, .int .u16 s]] w fun e w' => e = .returned (.bool (mayB n m lv st pt al au who l s)) ∧ Below w.heap.size w w' := by
  have HIN := Lib.hid hin
  have HST := Lib.hid hst
  have HAU := Lib.hid hau
  have HS := Lib.hid hs
  clear hin hst hau hs
  by_cases w0 : (0 : Int) ≤ who
  · by_cases w1 : who < (m : Int)
    · obtain ⟨i, rfl⟩ : ∃ i : Nat, who = i := ⟨who.toNat, by omega⟩
      have hi : i < m := by omega
      obtain ⟨q, hq, eq⟩ := there_nat (HIN.out i hi)
      rw [may_on hi hq eq]
      obtain ⟨bd, rfl, c0, c1, c2⟩ := (hp.alloc (.cells #[.int .i64 l, .int .u16 s] 26)).at_ hi
      obtain ⟨ad, rfl, c3, c4⟩ := (hl.alloc (.cells #[.int .i64 l, .int .u16 s] 26)).at_ hq
      rw [eq] at c0
      have s1 := Lib.hid (HST.out q hq)
      have s2 := Lib.hid (HAU.out i hi)
      have s3 := Lib.hid (offS_set s1.out HS.out)
      have HK := Lib.hid (show (HoldS w [((bd.add (i * 3)), .int .i64 (q : Int)), (⟨(bd.add (i * 3)).block, (bd.add (i * 3)).off + 1, none⟩, .int .i64 (al i)), (⟨(bd.add (i * 3)).block, (bd.add (i * 3)).off + 1 + 1, none⟩, .int .u16 (au i)), ((ad.add (q * 2)), .int .i64 (lv q)), (⟨(ad.add (q * 2)).block, (ad.add (q * 2)).off + 1, none⟩, .int .u16 (st q)), (⟨w.heap.size, 0, none⟩, .int .i64 l), (⟨w.heap.size, 1, none⟩, .int .u16 s)] (fun _ => True)) (w.alloc (.cells #[.int .i64 l, .int .u16 s] 26)).drew from ⟨(cc c0 (cc c1 (cc c2 (cc c3 (cc c4 (cc (by simp [go_sem]) (cc (by simp [go_sem]) cn))))))), trivial, ((Below.refl _ _).alloc (Nat.le_refl _) _).drew⟩)
      clear c0 c1 c2 c3 c4 hl hp eq w0 w1
      go_enter Try.func17, Try.ntmps17
      go_wp2_with fail
      refine wp_region_kept _ (by kernel_rfl) (by kernel_rfl) HK.out ?_
      intro hne
      have f0 : ∀ x : HeldW (HoldS w [((bd.add (i * 3)), .int .i64 (q : Int)), (⟨(bd.add (i * 3)).block, (bd.add (i * 3)).off + 1, none⟩, .int .i64 (al i)), (⟨(bd.add (i * 3)).block, (bd.add (i * 3)).off + 1 + 1, none⟩, .int .u16 (au i)), ((ad.add (q * 2)), .int .i64 (lv q)), (⟨(ad.add (q * 2)).block, (ad.add (q * 2)).off + 1, none⟩, .int .u16 (st q)), (⟨w.heap.size, 0, none⟩, .int .i64 l), (⟨w.heap.size, 1, none⟩, .int .u16 s)] (fun _ => True)), x.w.cell? (bd.add (i * 3)) = some (.int .i64 (q : Int)) := fun x => x.at_ 0 rfl
      have f1 : ∀ x : HeldW (HoldS w [((bd.add (i * 3)), .int .i64 (q : Int)), (⟨(bd.add (i * 3)).block, (bd.add (i * 3)).off + 1, none⟩, .int .i64 (al i)), (⟨(bd.add (i * 3)).block, (bd.add (i * 3)).off + 1 + 1, none⟩, .int .u16 (au i)), ((ad.add (q * 2)), .int .i64 (lv q)), (⟨(ad.add (q * 2)).block, (ad.add (q * 2)).off + 1, none⟩, .int .u16 (st q)), (⟨w.heap.size, 0, none⟩, .int .i64 l), (⟨w.heap.size, 1, none⟩, .int .u16 s)] (fun _ => True)), x.w.cell? ⟨(bd.add (i * 3)).block, (bd.add (i * 3)).off + 1, none⟩ = some (.int .i64 (al i)) := fun x => x.at_ 1 rfl
      have f2 : ∀ x : HeldW (HoldS w [((bd.add (i * 3)), .int .i64 (q : Int)), (⟨(bd.add (i * 3)).block, (bd.add (i * 3)).off + 1, none⟩, .int .i64 (al i)), (⟨(bd.add (i * 3)).block, (bd.add (i * 3)).off + 1 + 1, none⟩, .int .u16 (au i)), ((ad.add (q * 2)), .int .i64 (lv q)), (⟨(ad.add (q * 2)).block, (ad.add (q * 2)).off + 1, none⟩, .int .u16 (st q)), (⟨w.heap.size, 0, none⟩, .int .i64 l), (⟨w.heap.size, 1, none⟩, .int .u16 s)] (fun _ => True)), x.w.cell? ⟨(bd.add (i * 3)).block, (bd.add (i * 3)).off + 1 + 1, none⟩ = some (.int .u16 (au i)) := fun x => x.at_ 2 rfl
      have f3 : ∀ x : HeldW (HoldS w [((bd.add (i * 3)), .int .i64 (q : Int)), (⟨(bd.add (i * 3)).block, (bd.add (i * 3)).off + 1, none⟩, .int .i64 (al i)), (⟨(bd.add (i * 3)).block, (bd.add (i * 3)).off + 1 + 1, none⟩, .int .u16 (au i)), ((ad.add (q * 2)), .int .i64 (lv q)), (⟨(ad.add (q * 2)).block, (ad.add (q * 2)).off + 1, none⟩, .int .u16 (st q)), (⟨w.heap.size, 0, none⟩, .int .i64 l), (⟨w.heap.size, 1, none⟩, .int .u16 s)] (fun _ => True)), x.w.cell? (ad.add (q * 2)) = some (.int .i64 (lv q)) := fun x => x.at_ 3 rfl
      have f4 : ∀ x : HeldW (HoldS w [((bd.add (i * 3)), .int .i64 (q : Int)), (⟨(bd.add (i * 3)).block, (bd.add (i * 3)).off + 1, none⟩, .int .i64 (al i)), (⟨(bd.add (i * 3)).block, (bd.add (i * 3)).off + 1 + 1, none⟩, .int .u16 (au i)), ((ad.add (q * 2)), .int .i64 (lv q)), (⟨(ad.add (q * 2)).block, (ad.add (q * 2)).off + 1, none⟩, .int .u16 (st q)), (⟨w.heap.size, 0, none⟩, .int .i64 l), (⟨w.heap.size, 1, none⟩, .int .u16 s)] (fun _ => True)), x.w.cell? ⟨(ad.add (q * 2)).block, (ad.add (q * 2)).off + 1, none⟩ = some (.int .u16 (st q)) := fun x => x.at_ 4 rfl
      have f5 : ∀ x : HeldW (HoldS w [((bd.add (i * 3)), .int .i64 (q : Int)), (⟨(bd.add (i * 3)).block, (bd.add (i * 3)).off + 1, none⟩, .int .i64 (al i)), (⟨(bd.add (i * 3)).block, (bd.add (i * 3)).off + 1 + 1, none⟩, .int .u16 (au i)), ((ad.add (q * 2)), .int .i64 (lv q)), (⟨(ad.add (q * 2)).block, (ad.add (q * 2)).off + 1, none⟩, .int .u16 (st q)), (⟨w.heap.size, 0, none⟩, .int .i64 l), (⟨w.heap.size, 1, none⟩, .int .u16 s)] (fun _ => True)), x.w.cell? ⟨w.heap.size, 0, none⟩ = some (.int .i64 l) := fun x => x.at_ 5 rfl
      have f6 : ∀ x : HeldW (HoldS w [((bd.add (i * 3)), .int .i64 (q : Int)), (⟨(bd.add (i * 3)).block, (bd.add (i * 3)).off + 1, none⟩, .int .i64 (al i)), (⟨(bd.add (i * 3)).block, (bd.add (i * 3)).off + 1 + 1, none⟩, .int .u16 (au i)), ((ad.add (q * 2)), .int .i64 (lv q)), (⟨(ad.add (q * 2)).block, (ad.add (q * 2)).off + 1, none⟩, .int .u16 (st q)), (⟨w.heap.size, 0, none⟩, .int .i64 l), (⟨w.heap.size, 1, none⟩, .int .u16 s)] (fun _ => True)), x.w.cell? ⟨w.heap.size, 1, none⟩ = some (.int .u16 s) := fun x => x.at_ 6 rfl
      repeat (go_big_quiet_step (first | (go_at_call 23; refine kept_of (HoldS.keep keepTrue) (refleq_is _ _ _ _ s3.out s2.out _ rfl _)) | (go_at_call 33; refine kept_of (HoldS.keep keepTrue) (refoff_set _ _ _ _ s1.out HS.out _))))
      refine wpQuiet_nil ?_
      rintro w1 ⟨⟨_, hq⟩, rfl⟩
      obtain ⟨hcs, _, hb⟩ := hq
      clear f0 f1 f2 f3 f4 f5 f6 hne hcs
      go_wp2_with fail
      go_ret
      exact ⟨rfl, hb⟩
    · rw [may_off (m := m) (by simp [thereB]; omega)]
      have q1 : decide (who < (m : Int)) = false := by simpa using w1
      have q2 : decide ((0 : Int) ≤ who) = true := by simpa using w0
      clear hl hp
      go_enter Try.func17, Try.ntmps17
      go_wp2_with fail
      go_quiet (fail)
      go_wp2_with fail
      go_ret
      exact ⟨rfl, below_drewN ((Below.refl _ _).alloc (Nat.le_refl _) _) _⟩
  · rw [may_off (m := m) (by simp [thereB]; omega)]
    have q1 : decide ((0 : Int) ≤ who) = false := by simpa using w0
    clear hl hp
    go_enter Try.func17, Try.ntmps17
    go_wp2_with fail
    go_quiet (fail)
    go_wp2_with fail
    go_ret
    exact ⟨rfl, below_drewN ((Below.refl _ _).alloc (Nat.le_refl _) _) _⟩

end
end Go.Proofs.Ytnehcaefafdiaaa
