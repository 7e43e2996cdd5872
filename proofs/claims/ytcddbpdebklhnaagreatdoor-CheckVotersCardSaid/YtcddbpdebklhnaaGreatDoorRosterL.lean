/-
  What a roster's Below, and the document's Below and Same, answer: rising lists of numbers. No conditions but how the lists lie in memory. What the document's Find, Below, Same, Sees and May (package lockageref02) answer. No conditions but how the lists lie in memory. What the document's Below, Sees and May (package lockageref02) answer. Conditions: how the lists lie in memory; each principal's partition is there; sets are numbers from 0 to 65535. What the document's New (package lockageref02) answers: the same as roster.fault. No conditions but how the lists lie in memory.
-/
import Derived.Test.YtcddbpdebklhnaaGreatDoorRosterH
import Derived.WalkKit
import Derived.OwnWalk
namespace Go.Proofs.YtcddbpdebklhnaaGreatDoor
open Go.RowKit

/-- Those below n at which p says yes, rising. -/
def belowL (p : Nat → Bool) : Nat → List Int
  | 0 => []
  | n + 1 => if p n then belowL p n ++ [(n : Int)] else belowL p n
theorem belowL_len (p : Nat → Bool) : ∀ n, (belowL p n).length ≤ n
  | 0 => Nat.le_refl _
  | n + 1 => by
    have := belowL_len p n
    unfold belowL
    split <;> simp <;> omega
theorem belowL_mem {p : Nat → Bool} {x : Int} : ∀ {n : Nat}, x ∈ belowL p n ↔ ∃ i : Nat, i < n ∧ x = i ∧ p i = true
  | 0 => by simp [belowL]
  | n + 1 => by
    unfold belowL
    split
    · rename_i hp
      rw [List.mem_append, belowL_mem (n := n)]
      constructor
      · rintro (⟨i, hi, e, h⟩ | h)
        · exact ⟨i, by omega, e, h⟩
        · simp at h; exact ⟨n, by omega, h, hp⟩
      · rintro ⟨i, hi, e, h⟩
        by_cases en : i = n
        · subst en; exact .inr (by simp [e])
        · exact .inl ⟨i, by omega, e, h⟩
    · rename_i hp
      rw [belowL_mem (n := n)]
      constructor
      · rintro ⟨i, hi, e, h⟩; exact ⟨i, by omega, e, h⟩
      · rintro ⟨i, hi, e, h⟩
        by_cases en : i = n
        · subst en; exact absurd h hp
        · exact ⟨i, by omega, e, h⟩

/-- A list of numbers stands at A. -/
def IntsAt (w : World) (A : Option Addr) (zs : List Int) : Prop :=
  0 < zs.length → ∃ ad, A = some ad ∧ ∀ i, i < zs.length → w.cell? (ad.add i) = some (.int .i64 (zs.getD i 0))
theorem IntsAt.later {w w' : World} {A : Option Addr} {zs : List Int} (h : IntsAt w A zs) (hb : Below w.heap.size w w') : IntsAt w' A zs := fun hn => by
  obtain ⟨ad, e, hc⟩ := h hn
  exact ⟨ad, e, fun i hi => cell_later hb (hc i hi)⟩
theorem IntsAt.alloc {w : World} {A : Option Addr} {zs : List Int} (h : IntsAt w A zs) (o : Obj) : IntsAt (w.alloc o) A zs := fun hn => by
  obtain ⟨ad, e, hc⟩ := h hn
  exact ⟨ad, e, fun i hi => cell_alloc (hc i hi)⟩
theorem IntsAt.at_ {w : World} {A : Option Addr} {zs : List Int} (h : IntsAt w A zs) {i : Nat} (hi : i < zs.length) : ∃ ad, A = some ad ∧ w.cell? (ad.add i) = some (.int .i64 (zs.getD i 0)) := by
  obtain ⟨ad, e, hc⟩ := h (by omega)
  exact ⟨ad, e, hc i hi⟩
theorem ints_of_own {w : World} {base : Nat} {v : Value} {n : Nat} {zs : List Int} (h : w.ownsRow base 3 1 v n (zs.map (Value.int .i64))) : ∃ A c, v = .slice A zs.length c ∧ IntsAt w A zs := by
  have hl : zs.length = n := by simpa using h.1
  subst hl
  rcases h.2 with ⟨rfl, h0⟩ | ⟨g, cap, cur, rfl, _, _, hc, _⟩
  · exact ⟨none, 0, by rw [h0], fun h => absurd h (by omega)⟩
  · refine ⟨_, cap, rfl, fun _ => ⟨_, rfl, fun i hi => h.cells (g := g) rfl i _ ?_⟩⟩
    simp [List.getElem?_map, List.getElem?_eq_getElem hi]

theorem own_later {w w' : World} {base : Nat} {e : TypeId} {size : Nat} {v : Value} {n : Nat} {xs : List Value} (h : w.ownsRow base e size v n xs) (hb : Below w.heap.size w w') : w'.ownsRow base e size v n xs :=
  h.kept (row := none) ⟨hb.os, hb.tape, hb.output, hb.size, fun i hi _ => hb.block i hi⟩ (by cases v.ownBlock <;> simp)

/-- A list of numbers is answered. -/
def IntsOut (w : World) (zs : List Int) (e : Ending) (w' : World) : Prop := ∃ A c, e = .returned (.slice A zs.length c) ∧ IntsAt w' A zs ∧ Below w.heap.size w w'

/-- The middle of a walk that collects: k have been looked at. -/
def CollRel (W : World) (p : Nat → Bool) (n : Nat) (v i : Value) (wr : World) : Prop :=
  ∃ k : Nat, k ≤ n ∧ i = .int .i64 k ∧ wr.ownsRow W.heap.size 3 1 v (belowL p k).length ((belowL p k).map (Value.int .i64)) ∧ Below W.heap.size W wr

theorem coll_no {W wr : World} {p : Nat → Bool} {n k : Nat} {v : Value} (hk : k < n) (hp : p k = false) (ho : wr.ownsRow W.heap.size 3 1 v (belowL p k).length ((belowL p k).map (Value.int .i64))) (hB : Below W.heap.size W wr) :
    CollRel W p n v (.int .i64 ((k + 1 : Nat) : Int)) wr := by
  refine ⟨k + 1, by omega, rfl, ?_, hB⟩
  have e : belowL p (k + 1) = belowL p k := by simp [belowL, hp]
  rw [e]; exact ho
theorem coll_yes {W wr : World} {p : Nat → Bool} {n k : Nat} {v : Value} (hk : k < n) (hp : p k = true) (ho : wr.ownsRow W.heap.size 3 1 v ((belowL p k).length + 1) ((belowL p k).map (Value.int .i64) ++ [.int .i64 k])) (hB : Below W.heap.size W wr) :
    CollRel W p n v (.int .i64 ((k + 1 : Nat) : Int)) wr := by
  refine ⟨k + 1, by omega, rfl, ?_, hB⟩
  have e : belowL p (k + 1) = belowL p k ++ [(k : Int)] := by simp [belowL, hp]
  rw [e]
  simpa using ho

section
variable {R n m : Nat} {lv st pt al au : Nat → Int} {w : World}

set_option maxHeartbeats 1000000 in
set_option maxRecDepth 100000 in
theorem rbelow_is (h : RosAt w R n m lv st pt al au) (l s : Int) :
    Calls Tryz.prog 47 #[.pointer (some ⟨R, 0, none⟩), .agg #[.int .i64 l, .int .u16 s]] w (IntsOut w (belowL (fun i => leqB (lv i) (st i) l s) n)) := by
  obtain ⟨i0, hi, hz0, hz1, hz2⟩ := info_parts info_int
  obtain ⟨A, c, B, d, h1, h2, h3, h4, h5, h6⟩ := h
  replace h1 : (w.alloc (.cells #[.int .i64 l, .int .u16 s] 41)).cell? ⟨R, 0, none⟩ = some (.slice A n c) := cell_alloc h1
  have HL := Lib.hid (h3.alloc (.cells #[.int .i64 l, .int .u16 s] 41))
  have b0 : (w.alloc (.cells #[.int .i64 l, .int .u16 s] 41)).cell? ⟨w.heap.size, 0, none⟩ = some (.int .i64 l) := by simp [go_sem]
  have b1 : (w.alloc (.cells #[.int .i64 l, .int .u16 s] 41)).cell? ⟨w.heap.size, 1, none⟩ = some (.int .u16 s) := by simp [go_sem]
  have hW : Below w.heap.size w (w.alloc (.cells #[.int .i64 l, .int .u16 s] 41)) := (Below.refl _ _).alloc (Nat.le_refl _) _
  clear h2 h3 h4
  go_enter Tryz.func47, Tryz.ntmps47
  go_wp2_with fail
  generalize w.alloc (.cells #[.int .i64 l, .int .u16 s] 41) = W at *
  go_loopw [5, 15] (CollRel W (fun i => leqB (lv i) (st i) l s) n) (fun _ i _ => n - (intOf i).toNat)
  case atStart => exact ⟨0, by omega, rfl, World.ownsRow_nil _ _ _ _, Below.refl _ _⟩
  case round =>
    obtain ⟨k, hk, rfl, hown, hB⟩ := hrel
    by_cases hlt : k < n
    · obtain ⟨ad, rfl, c0, c1⟩ := (HL.out.later hB).at_ hlt
      have d0 : (wr.alloc (.cells #[.int .i64 (lv k), .int .u16 (st k)] 41)).cell? ⟨w.heap.size, 0, none⟩ = some (.int .i64 l) := cell_alloc (cell_later hB b0)
      have d1 : (wr.alloc (.cells #[.int .i64 (lv k), .int .u16 (st k)] 41)).cell? ⟨w.heap.size, 1, none⟩ = some (.int .u16 s) := cell_alloc (cell_later hB b1)
      have hlen := belowL_len (fun i => leqB (lv i) (st i) l s) k
      cases hs : leqB (lv k) (st k) l s
      · go_wp2_with (go_at_call 64; refine (leq_is _ _ _ _ false hs _).mono ?_; rintro e w1 ⟨rfl, hb⟩)
        have hB1 := below_step (hB.alloc hB.size _) hb
        have ho1 := own_later (hown.alloc _) hb
        go_roundw
        case rel => exact coll_no (p := fun i => leqB (lv i) (st i) l s) hlt hs ho1 hB1
        case measure => simp [intOf]; omega
      · have HO := Lib.hid hown
        clear hown
        go_wp2_with (first
          | (go_at_call 64; refine (leq_is _ _ _ _ true hs _).mono ?_; rintro e w1 ⟨rfl, hb⟩; have hB1 := below_step (hB.alloc hB.size _) hb; have HO1 := Lib.hid (own_later (HO.out.alloc _) hb))
          | (at_builtin; refine wpList_append_own _ rfl _ _ 37 rfl W.heap.size 3 i0 _ 1 8 Tryz.underlying37 hi hz0 hz1 hz2 rfl (by omega) u5 (belowL (fun i => leqB (lv i) (st i) l s) k).length ((belowL (fun i => leqB (lv i) (st i) l s) k).map (Value.int .i64)) rfl (HO1.out.alloc _) ⟨w1.heap.size, 0, none⟩ 1 1 [.int .i64 (k : Int)] rfl rfl (one_cell_new w1 _ _) (by simp [Value.oneCell']) (by unfold maxLen; omega) (by omega) (by have := hB1.size; simp; omega) ?_; intro v2 w2 hown2 hg2 _))
        have hB2 := (hB1.alloc hB1.size _).grown hg2 (by have := hB1.size; simp; omega) (fun q hq => (HO.out.lt q hq).1)
        go_roundw
        case rel => exact coll_yes (p := fun i => leqB (lv i) (st i) l s) hlt hs hown2 hB2
        case measure => simp [intOf]; omega
    · obtain rfl : k = n := by omega
      go_wp2_with fail
      obtain ⟨A', c', rfl, hints⟩ := ints_of_own hown
      go_ret
      exact ⟨A', c', rfl, hints, below_step hW hB⟩

end
end Go.Proofs.YtcddbpdebklhnaaGreatDoor

namespace Go.Proofs.YtcddbpdebklhnaaGreatDoor
open Go.RowKit

theorem refoff_set (l s m t : Int) (hs : SetN s) (ht : SetN t) (w : World) :
    Calls Tryz.prog 13 #[.agg #[.int .i64 l, .int .u16 s], .agg #[.int .i64 m, .int .u16 t]] w fun e w' => e = .returned (.agg #[.int .i64 (offL l m), .int .u16 (offS s t)]) ∧ Below w.heap.size w w' := by
  rw [← acc_off hs ht]
  exact refoff_is l s m t w

section
variable {A B : Option Addr} {n m c d : Nat} {lv st pt al au : Nat → Int} {w : World}

theorem same_comm (a b c d : Int) : sameB a b c d = sameB c d a b := by
  rw [Bool.eq_iff_iff, sameB_iff, sameB_iff]
  exact ⟨fun ⟨h, k⟩ => ⟨h.symm, k.symm⟩, fun ⟨h, k⟩ => ⟨h.symm, k.symm⟩⟩

set_option maxHeartbeats 400000 in
set_option maxRecDepth 100000 in
theorem same_is {zs : List Int} (ha : IntsAt w A zs) (hb : IntsAt w B zs) (hn : zs.length ≤ 64) :
    Calls Tryz.prog 15 #[.slice A zs.length c, .slice B zs.length d] w fun e w' => e = .returned (.bool true) ∧ Below w.heap.size w w' := by
  have HA := Lib.hid ha
  have HB := Lib.hid hb
  clear ha hb
  go_enter Tryz.func15, Tryz.ntmps15
  go_wp2
  go_loopw [5] (fun i wr => ∃ k q : Nat, k ≤ zs.length ∧ i = .int .i64 k ∧ wr = w.drewN q) (fun i _ => zs.length - (intOf i).toNat)
  case atStart => exact ⟨0, 0, Nat.zero_le _, rfl, rfl⟩
  case round =>
    obtain ⟨k, q, hk, rfl, rfl⟩ := hrel
    by_cases hlt : k < zs.length
    · obtain ⟨ad, rfl, h0⟩ := HA.out.at_ hlt
      obtain ⟨bd, rfl, h1⟩ := HB.out.at_ hlt
      generalize zs.getD k 0 = z at h0 h1
      go_wp2
      go_quiet (fail)
      go_wp2
      go_roundw
      case rel => exact ⟨k + 1, _, by omega, by go_num, rfl⟩
      case measure => simp [intOf]; omega
    · go_wp2
      go_ret
      exact ⟨rfl, below_drewN (Below.refl _ _) _⟩

end
end Go.Proofs.YtcddbpdebklhnaaGreatDoor

namespace Go.Proofs.YtcddbpdebklhnaaGreatDoor
open Go.RowKit

section
variable {A B : Option Addr} {n m c d : Nat} {lv st pt al au : Nat → Int} {w : World}

theorem sees_off {who part : Int} (h : thereB who m = false ∨ thereB part n = false) : seesB n m lv st pt who part = false := by
  unfold seesB
  rcases h with h | h
  · have e : partV m pt who = -1 := by simp [partV, h]
    rw [e]
    simp [thereB]
  · simp [h]
theorem sees_on {i j q : Nat} (hi : i < m) (hj : j < n) (hq : q < n) (e : pt i = q) : seesB n m lv st pt i j = leqB (lv j) (st j) (lv q) (st q) := by
  simp [seesB, partV, rlabV, there_of hi, there_of hj, e, there_of hq]

theorem may_off {who l s : Int} (h : thereB who m = false) : mayB n m lv st pt al au who l s = false := by
  have e : partV m pt who = -1 := by simp [partV, h]
  unfold mayB
  rw [e]
  simp [thereB]
theorem may_on {i q : Nat} {l s : Int} (hi : i < m) (hq : q < n) (e : pt i = q) : mayB n m lv st pt al au i l s = leqB (offL (lv q) l) (offS (st q) s) (al i) (au i) := by
  simp [mayB, partV, rlabV, there_of hi, e, there_of hq]

set_option maxHeartbeats 1000000 in
set_option maxRecDepth 100000 in
theorem refmay_is (hl : LabsAt w A n lv st) (hp : PepsAt w B m pt al au) (hin : ∀ i, i < m → thereB (pt i) n = true) (hst : ∀ i, i < n → SetN (st i)) (hau : ∀ i, i < m → SetN (au i)) (who l s : Int) (hs : SetN s) :
    Calls Tryz.prog 33 #[.slice A n c, .slice B m d, .int .i64 who, .agg #[.int .i64 l, .int .u16 s]] w fun e w' => e = .returned (.bool (mayB n m lv st pt al au who l s)) ∧ Below w.heap.size w w' := by
  have HIN := Lib.hid hin
  have HST := Lib.hid hst
  have HAU := Lib.hid hau
  have HS := Lib.hid hs
  clear hin hst hau hs
  by_cases w0 : (0 : Int) ≤ who
  · by_cases w1 : who < (m : Int)
    · obtain ⟨i, rfl⟩ : ∃ i : Nat, who = i := ⟨who.toNat, by omega⟩
      have hi : i < m := by omega
      obtain ⟨q, hq, eq⟩ := there_nat (HIN.out i hi)
      rw [may_on hi hq eq]
      obtain ⟨bd, rfl, c0, c1, c2⟩ := (hp.alloc (.cells #[.int .i64 l, .int .u16 s] 41)).at_ hi
      obtain ⟨ad, rfl, c3, c4⟩ := (hl.alloc (.cells #[.int .i64 l, .int .u16 s] 41)).at_ hq
      rw [eq] at c0
      have s1 := Lib.hid (HST.out q hq)
      have s2 := Lib.hid (HAU.out i hi)
      have s3 := Lib.hid (offS_set s1.out HS.out)
      have HK := Lib.hid (show (HoldS w [((bd.add (i * 3)), .int .i64 (q : Int)), (⟨(bd.add (i * 3)).block, (bd.add (i * 3)).off + 1, none⟩, .int .i64 (al i)), (⟨(bd.add (i * 3)).block, (bd.add (i * 3)).off + 1 + 1, none⟩, .int .u16 (au i)), ((ad.add (q * 2)), .int .i64 (lv q)), (⟨(ad.add (q * 2)).block, (ad.add (q * 2)).off + 1, none⟩, .int .u16 (st q)), (⟨w.heap.size, 0, none⟩, .int .i64 l), (⟨w.heap.size, 1, none⟩, .int .u16 s)] (fun _ => True)) (w.alloc (.cells #[.int .i64 l, .int .u16 s] 41)).drew from ⟨(cc c0 (cc c1 (cc c2 (cc c3 (cc c4 (cc (by simp [go_sem]) (cc (by simp [go_sem]) cn))))))), trivial, ((Below.refl _ _).alloc (Nat.le_refl _) _).drew⟩)
      clear c0 c1 c2 c3 c4 hl hp eq w0 w1
      go_enter Tryz.func33, Tryz.ntmps33
      go_wp2_with fail
      refine wp_region_kept _ (by kernel_rfl) (by kernel_rfl) HK.out ?_
      intro hne
      have f0 : ∀ x : HeldW (HoldS w [((bd.add (i * 3)), .int .i64 (q : Int)), (⟨(bd.add (i * 3)).block, (bd.add (i * 3)).off + 1, none⟩, .int .i64 (al i)), (⟨(bd.add (i * 3)).block, (bd.add (i * 3)).off + 1 + 1, none⟩, .int .u16 (au i)), ((ad.add (q * 2)), .int .i64 (lv q)), (⟨(ad.add (q * 2)).block, (ad.add (q * 2)).off + 1, none⟩, .int .u16 (st q)), (⟨w.heap.size, 0, none⟩, .int .i64 l), (⟨w.heap.size, 1, none⟩, .int .u16 s)] (fun _ => True)), x.w.cell? (bd.add (i * 3)) = some (.int .i64 (q : Int)) := fun x => x.at_ 0 rfl
      have f1 : ∀ x : HeldW (HoldS w [((bd.add (i * 3)), .int .i64 (q : Int)), (⟨(bd.add (i * 3)).block, (bd.add (i * 3)).off + 1, none⟩, .int .i64 (al i)), (⟨(bd.add (i * 3)).block, (bd.add (i * 3)).off + 1 + 1, none⟩, .int .u16 (au i)), ((ad.add (q * 2)), .int .i64 (lv q)), (⟨(ad.add (q * 2)).block, (ad.add (q * 2)).off + 1, none⟩, .int .u16 (st q)), (⟨w.heap.size, 0, none⟩, .int .i64 l), (⟨w.heap.size, 1, none⟩, .int .u16 s)] (fun _ => True)), x.w.cell? ⟨(bd.add (i * 3)).block, (bd.add (i * 3)).off + 1, none⟩ = some (.int .i64 (al i)) := fun x => x.at_ 1 rfl
      have f2 : ∀ x : HeldW (HoldS w [((bd.add (i * 3)), .int .i64 (q : Int)), (⟨(bd.add (i * 3)).block, (bd.add (i * 3)).off + 1, none⟩, .int .i64 (al i)), (⟨(bd.add (i * 3)).block, (bd.add (i * 3)).off + 1 + 1, none⟩, .int .u16 (au i)), ((ad.add (q * 2)), .int .i64 (lv q)), (⟨(ad.add (q * 2)).block, (ad.add (q * 2)).off + 1, none⟩, .int .u16 (st q)), (⟨w.heap.size, 0, none⟩, .int .i64 l), (⟨w.heap.size, 1, none⟩, .int .u16 s)] (fun _ => True)), x.w.cell? ⟨(bd.add (i * 3)).block, (bd.add (i * 3)).off + 1 + 1, none⟩ = some (.int .u16 (au i)) := fun x => x.at_ 2 rfl
      have f3 : ∀ x : HeldW (HoldS w [((bd.add (i * 3)), .int .i64 (q : Int)), (⟨(bd.add (i * 3)).block, (bd.add (i * 3)).off + 1, none⟩, .int .i64 (al i)), (⟨(bd.add (i * 3)).block, (bd.add (i * 3)).off + 1 + 1, none⟩, .int .u16 (au i)), ((ad.add (q * 2)), .int .i64 (lv q)), (⟨(ad.add (q * 2)).block, (ad.add (q * 2)).off + 1, none⟩, .int .u16 (st q)), (⟨w.heap.size, 0, none⟩, .int .i64 l), (⟨w.heap.size, 1, none⟩, .int .u16 s)] (fun _ => True)), x.w.cell? (ad.add (q * 2)) = some (.int .i64 (lv q)) := fun x => x.at_ 3 rfl
      have f4 : ∀ x : HeldW (HoldS w [((bd.add (i * 3)), .int .i64 (q : Int)), (⟨(bd.add (i * 3)).block, (bd.add (i * 3)).off + 1, none⟩, .int .i64 (al i)), (⟨(bd.add (i * 3)).block, (bd.add (i * 3)).off + 1 + 1, none⟩, .int .u16 (au i)), ((ad.add (q * 2)), .int .i64 (lv q)), (⟨(ad.add (q * 2)).block, (ad.add (q * 2)).off + 1, none⟩, .int .u16 (st q)), (⟨w.heap.size, 0, none⟩, .int .i64 l), (⟨w.heap.size, 1, none⟩, .int .u16 s)] (fun _ => True)), x.w.cell? ⟨(ad.add (q * 2)).block, (ad.add (q * 2)).off + 1, none⟩ = some (.int .u16 (st q)) := fun x => x.at_ 4 rfl
      have f5 : ∀ x : HeldW (HoldS w [((bd.add (i * 3)), .int .i64 (q : Int)), (⟨(bd.add (i * 3)).block, (bd.add (i * 3)).off + 1, none⟩, .int .i64 (al i)), (⟨(bd.add (i * 3)).block, (bd.add (i * 3)).off + 1 + 1, none⟩, .int .u16 (au i)), ((ad.add (q * 2)), .int .i64 (lv q)), (⟨(ad.add (q * 2)).block, (ad.add (q * 2)).off + 1, none⟩, .int .u16 (st q)), (⟨w.heap.size, 0, none⟩, .int .i64 l), (⟨w.heap.size, 1, none⟩, .int .u16 s)] (fun _ => True)), x.w.cell? ⟨w.heap.size, 0, none⟩ = some (.int .i64 l) := fun x => x.at_ 5 rfl
      have f6 : ∀ x : HeldW (HoldS w [((bd.add (i * 3)), .int .i64 (q : Int)), (⟨(bd.add (i * 3)).block, (bd.add (i * 3)).off + 1, none⟩, .int .i64 (al i)), (⟨(bd.add (i * 3)).block, (bd.add (i * 3)).off + 1 + 1, none⟩, .int .u16 (au i)), ((ad.add (q * 2)), .int .i64 (lv q)), (⟨(ad.add (q * 2)).block, (ad.add (q * 2)).off + 1, none⟩, .int .u16 (st q)), (⟨w.heap.size, 0, none⟩, .int .i64 l), (⟨w.heap.size, 1, none⟩, .int .u16 s)] (fun _ => True)), x.w.cell? ⟨w.heap.size, 1, none⟩ = some (.int .u16 s) := fun x => x.at_ 6 rfl
      repeat (go_big_quiet_step (first | (go_at_call 11; refine kept_of (HoldS.keep keepTrue) (refleq_is _ _ _ _ s3.out s2.out _ rfl _)) | (go_at_call 13; refine kept_of (HoldS.keep keepTrue) (refoff_set _ _ _ _ s1.out HS.out _))))
      refine wpQuiet_nil ?_
      rintro w1 ⟨⟨_, hq⟩, rfl⟩
      obtain ⟨hcs, _, hb⟩ := hq
      clear f0 f1 f2 f3 f4 f5 f6 hne hcs
      go_wp2_with fail
      go_ret
      exact ⟨rfl, hb⟩
    · rw [may_off (m := m) (by simp [thereB]; omega)]
      have q1 : decide (who < (m : Int)) = false := by simpa using w1
      have q2 : decide ((0 : Int) ≤ who) = true := by simpa using w0
      clear hl hp
      go_enter Tryz.func33, Tryz.ntmps33
      go_wp2_with fail
      go_quiet (fail)
      go_wp2_with fail
      go_ret
      exact ⟨rfl, below_drewN ((Below.refl _ _).alloc (Nat.le_refl _) _) _⟩
  · rw [may_off (m := m) (by simp [thereB]; omega)]
    have q1 : decide ((0 : Int) ≤ who) = false := by simpa using w0
    clear hl hp
    go_enter Tryz.func33, Tryz.ntmps33
    go_wp2_with fail
    go_quiet (fail)
    go_wp2_with fail
    go_ret
    exact ⟨rfl, below_drewN ((Below.refl _ _).alloc (Nat.le_refl _) _) _⟩

end
end Go.Proofs.YtcddbpdebklhnaaGreatDoor

namespace Go.Proofs.YtcddbpdebklhnaaGreatDoor
open Go.RowKit

section
variable {A B : Option Addr} {n m c d : Nat} {lv st pt al au : Nat → Int} {w : World}

theorem faultV_tail (h1 : 0 < n) (h4 : n ≤ 4) (h12 : m ≤ 12) : faultV n m lv st pt al = if anyN (fun i => !rightB (lv i)) n then 1 else if anyN (fun i => !rightB (al i)) m then 1
    else if twiceB n lv st then 7 else if anyN (fun i => !thereB (pt i) n) m then 2 else 0 := by unfold faultV; rw [if_neg (by omega)]
theorem fv_lab {k : Nat} (h1 : 0 < n) (h4 : n ≤ 4) (h12 : m ≤ 12) (hk : k < n) (h : rightB (lv k) = false) : faultV n m lv st pt al = 1 := by
  rw [faultV_tail h1 h4 h12, anyN_yes (p := fun i => !rightB (lv i)) hk (by simp [h])]; rfl
theorem all_no {p : Nat → Bool} {n : Nat} (h : ∀ i, i < n → p i = true) : anyN (fun i => !p i) n = false := anyN_no fun i hi => by simp [h i hi]
theorem fv_auth {k : Nat} (h1 : 0 < n) (h4 : n ≤ 4) (h12 : m ≤ 12) (hl : ∀ i, i < n → rightB (lv i) = true) (hk : k < m) (h : rightB (al k) = false) : faultV n m lv st pt al = 1 := by
  rw [faultV_tail h1 h4 h12, all_no hl, anyN_yes (p := fun i => !rightB (al i)) hk (by simp [h])]; rfl
theorem fv_twice {k j : Nat} (h1 : 0 < n) (h4 : n ≤ 4) (h12 : m ≤ 12) (hl : ∀ i, i < n → rightB (lv i) = true) (ha : ∀ i, i < m → rightB (al i) = true) (hk : k < n) (hj : j < k) (h : sameB (lv k) (st k) (lv j) (st j) = true) : faultV n m lv st pt al = 7 := by
  have e : twiceB n lv st = true := anyN_yes (p := fun i => anyN (fun j => sameB (lv i) (st i) (lv j) (st j)) i) hk (anyN_yes (p := fun j => sameB (lv k) (st k) (lv j) (st j)) hj h)
  rw [faultV_tail h1 h4 h12, all_no hl, all_no ha, e]; rfl
theorem no_twice (ht : ∀ i, i < n → ∀ j, j < i → sameB (lv i) (st i) (lv j) (st j) = false) : twiceB n lv st = false := anyN_no fun i hi => anyN_no fun j hj => ht i hi j hj
theorem fv_part {k : Nat} (h1 : 0 < n) (h4 : n ≤ 4) (h12 : m ≤ 12) (hl : ∀ i, i < n → rightB (lv i) = true) (ha : ∀ i, i < m → rightB (al i) = true) (ht : ∀ i, i < n → ∀ j, j < i → sameB (lv i) (st i) (lv j) (st j) = false) (hk : k < m) (h : thereB (pt k) n = false) : faultV n m lv st pt al = 2 := by
  rw [faultV_tail h1 h4 h12, all_no hl, all_no ha, no_twice ht, anyN_yes (p := fun i => !thereB (pt i) n) hk (by simp [h])]; rfl
theorem fv_ok (h1 : 0 < n) (h4 : n ≤ 4) (h12 : m ≤ 12) (hl : ∀ i, i < n → rightB (lv i) = true) (ha : ∀ i, i < m → rightB (al i) = true) (ht : ∀ i, i < n → ∀ j, j < i → sameB (lv i) (st i) (lv j) (st j) = false) (hp : ∀ i, i < m → thereB (pt i) n = true) : faultV n m lv st pt al = 0 := by
  rw [faultV_tail h1 h4 h12, all_no hl, all_no ha, no_twice ht, all_no (p := fun i => thereB (pt i) n) hp]; rfl

theorem more {P : Nat → Prop} {k : Nat} (h : ∀ i, i < k → P i) (hk : P k) : ∀ i, i < k + 1 → P i := fun i hi => by
  by_cases e : i = k
  · rw [e]; exact hk
  · exact h i (by omega)

set_option maxHeartbeats 400000 in
set_option maxRecDepth 100000 in
theorem refnew_len (h : n = 0 ∨ 4 < n ∨ 12 < m) :
    Calls Tryz.prog 7 #[.slice A n c, .slice B m d] w fun e w' => e = .returned (.int .i64 1) ∧ Below w.heap.size w w' := by
  by_cases h0 : n = 0
  · subst h0
    clear h
    go_enter Tryz.func7, Tryz.ntmps7
    go_wp2
    go_ret
    exact ⟨rfl, Below.refl _ _⟩
  by_cases h4 : 4 < n
  · have h1 : ¬ n < 1 := by omega
    clear h
    go_enter Tryz.func7, Tryz.ntmps7
    go_wp2
    go_ret
    exact ⟨rfl, Below.refl _ _⟩
  · have h12 : 12 < m := by omega
    have h1 : ¬ n < 1 := by omega
    clear h
    go_enter Tryz.func7, Tryz.ntmps7
    go_wp2
    go_ret
    exact ⟨rfl, Below.refl _ _⟩

set_option maxHeartbeats 2000000 in
set_option maxRecDepth 100000 in
theorem refnew_all (hl : LabsAt w A n lv st) (hp : PepsAt w B m pt al au) (h1 : 0 < n) (h4 : n ≤ 4) (h12 : m ≤ 12) :
    Calls Tryz.prog 7 #[.slice A n c, .slice B m d] w fun e w' => e = .returned (.int .i64 (faultV n m lv st pt al)) ∧ Below w.heap.size w w' := by
  have HL := Lib.hid hl
  have HP := Lib.hid hp
  have h1' : ¬ n < 1 := by omega
  have h4' : ¬ 4 < n := by omega
  have h12' : ¬ 12 < m := by omega
  clear hl hp
  go_enter Tryz.func7, Tryz.ntmps7
  go_wp2
  go_loopw [5] (fun i wr => ∃ k : Nat, k ≤ n ∧ i = .int .i64 k ∧ Hid (∀ j, j < k → rightB (lv j) = true) ∧ Below w.heap.size w wr) (fun i _ => n - (intOf i).toNat)
  case atStart => exact ⟨0, Nat.zero_le _, rfl, Lib.hid (fun _ h => absurd h (by omega)), Below.refl _ _⟩
  case round =>
    obtain ⟨k, hk, rfl, H1, hB⟩ := hrel
    by_cases hlt : k < n
    · obtain ⟨ad, rfl, c0, c1⟩ := (HL.out.later hB).at_ hlt
      cases hr : rightB (lv k)
      · go_wp2_with (go_at_call 18; refine (refright_is _ _ false hr _).mono ?_; rintro e w1 ⟨rfl, hb⟩)
        go_ret
        exact ⟨ret_int (fv_lab h1 h4 h12 hlt hr).symm, below_step hB hb⟩
      · go_wp2_with (go_at_call 18; refine (refright_is _ _ true hr _).mono ?_; rintro e w1 ⟨rfl, hb⟩)
        go_roundw
        case rel => exact ⟨k + 1, by omega, by go_num, Lib.hid (more H1.out hr), below_step hB hb⟩
        case measure => simp [intOf]; omega
    obtain rfl : k = n := by omega
    obtain ⟨wo, rfl⟩ : ∃ wo : World, wo = wr := ⟨_, rfl⟩
    go_wp2
    go_loopw [6] (fun i wr => ∃ q : Nat, q ≤ m ∧ i = .int .i64 q ∧ Hid (∀ j, j < q → rightB (al j) = true) ∧ Below w.heap.size w wr) (fun i _ => m - (intOf i).toNat)
    case atStart => exact ⟨0, Nat.zero_le _, rfl, Lib.hid (fun _ h => absurd h (by omega)), hB⟩
    case round =>
      clear hB
      obtain ⟨q, hq, rfl, H2, hB⟩ := hrel
      by_cases hlt2 : q < m
      · obtain ⟨ad, rfl, c0, c1, c2⟩ := (HP.out.later hB).at_ hlt2
        cases hr : rightB (al q)
        · go_wp2_with (go_at_call 18; refine (refright_is _ _ false hr _).mono ?_; rintro e w1 ⟨rfl, hb⟩)
          go_ret
          exact ⟨ret_int (fv_auth h1 h4 h12 H1.out hlt2 hr).symm, below_step hB hb⟩
        · go_wp2_with (go_at_call 18; refine (refright_is _ _ true hr _).mono ?_; rintro e w1 ⟨rfl, hb⟩)
          go_roundw
          case rel => exact ⟨q + 1, by omega, by go_num, Lib.hid (more H2.out hr), below_step hB hb⟩
          case measure => simp [intOf]; omega
      obtain rfl : q = m := by omega
      clear wo
      obtain ⟨wo, rfl⟩ : ∃ wo : World, wo = wr := ⟨_, rfl⟩
      go_wp2
      go_loopw [7] (fun i wr => ∃ a : Nat, a ≤ k ∧ i = .int .i64 a ∧ Hid (∀ x, x < a → ∀ j, j < x → sameB (lv x) (st x) (lv j) (st j) = false) ∧ Below w.heap.size w wr) (fun i _ => k - (intOf i).toNat)
      case atStart => exact ⟨0, Nat.zero_le _, rfl, Lib.hid (fun _ h => absurd h (by omega)), hB⟩
      case round =>
        clear hB
        obtain ⟨a, ha, rfl, H3, hB⟩ := hrel
        by_cases hlt3 : a < k
        · clear wo
          obtain ⟨wo, rfl⟩ : ∃ wo : World, wo = wr := ⟨_, rfl⟩
          go_wp2
          go_loopw [8] (fun i wr => ∃ b : Nat, b ≤ a ∧ i = .int .i64 b ∧ Hid (∀ j, j < b → sameB (lv a) (st a) (lv j) (st j) = false) ∧ Below w.heap.size w wr) (fun i _ => a - (intOf i).toNat)
          case atStart => exact ⟨0, Nat.zero_le _, rfl, Lib.hid (fun _ h => absurd h (by omega)), hB⟩
          case round =>
            clear hB
            obtain ⟨b, hb, rfl, H4, hB⟩ := hrel
            by_cases hlt4 : b < a
            · obtain ⟨ad, rfl, c0, c1⟩ := (HL.out.later hB).at_ hlt3
              obtain ⟨ad', e', d0, d1⟩ := (HL.out.later hB).at_ (show b < k by omega)
              injection e' with e'
              subst e'
              cases hs : sameB (lv a) (st a) (lv b) (st b)
              · go_wp2
                go_quiet (fail)
                go_wp2
                go_roundw
                case rel => exact ⟨b + 1, by omega, by go_num, Lib.hid (more H4.out hs), below_drewN hB _⟩
                case measure => simp [intOf]; omega
              · go_wp2
                go_quiet (fail)
                go_wp2
                go_ret
                exact ⟨ret_int (fv_twice h1 h4 h12 H1.out H2.out hlt3 hlt4 hs).symm, below_drewN hB _⟩
            · obtain rfl : b = a := by omega
              go_wp2
              go_roundw
              case rel => exact ⟨b + 1, by omega, by go_num, Lib.hid (more H3.out H4.out), hB⟩
              case measure => simp [intOf]; omega
        obtain rfl : a = k := by omega
        clear wo
        obtain ⟨wo, rfl⟩ : ∃ wo : World, wo = wr := ⟨_, rfl⟩
        go_wp2
        go_loopw [9] (fun i wr => ∃ b : Nat, b ≤ q ∧ i = .int .i64 b ∧ Hid (∀ j, j < b → thereB (pt j) a = true) ∧ Below w.heap.size w wr) (fun i _ => q - (intOf i).toNat)
        case atStart => exact ⟨0, Nat.zero_le _, rfl, Lib.hid (fun _ h => absurd h (by omega)), hB⟩
        case round =>
          clear hB
          obtain ⟨b, hb, rfl, H4, hB⟩ := hrel
          by_cases hlt5 : b < q
          · obtain ⟨ad, rfl, c0, c1, c2⟩ := (HP.out.later hB).at_ hlt5
            by_cases p0 : pt b < 0
            · go_wp2
              go_ret
              exact ⟨ret_int (fv_part h1 h4 h12 H1.out H2.out H3.out hlt5 (by simp [thereB]; omega)).symm, hB⟩
            · by_cases p1 : (a : Int) ≤ pt b
              · go_wp2
                go_ret
                exact ⟨ret_int (fv_part h1 h4 h12 H1.out H2.out H3.out hlt5 (by simp [thereB]; omega)).symm, hB⟩
              · go_wp2
                go_roundw
                case rel => exact ⟨b + 1, by omega, by go_num, Lib.hid (more H4.out (by simp [thereB]; omega)), hB⟩
                case measure => simp [intOf]; omega
          · obtain rfl : b = q := by omega
            go_wp2
            go_ret
            exact ⟨ret_int (fv_ok h1 h4 h12 H1.out H2.out H3.out H4.out).symm, hB⟩

theorem refnew_is (hl : LabsAt w A n lv st) (hp : PepsAt w B m pt al au) :
    Calls Tryz.prog 7 #[.slice A n c, .slice B m d] w fun e w' => e = .returned (.int .i64 (faultV n m lv st pt al)) ∧ Below w.heap.size w w' := by
  by_cases h : n = 0 ∨ 4 < n ∨ 12 < m
  · rw [faultV_len lv st pt al h]
    exact refnew_len h
  · exact refnew_all hl hp (by omega) (by omega) (by omega)

end
end Go.Proofs.YtcddbpdebklhnaaGreatDoor
