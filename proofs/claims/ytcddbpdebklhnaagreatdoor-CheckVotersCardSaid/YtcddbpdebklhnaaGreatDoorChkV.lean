/-
  The document's Voters; CheckVoters over the bundle. No conditions but how the arguments lie.
-/
import Derived.Test.YtcddbpdebklhnaaGreatDoorChkG
namespace Go.Proofs.YtcddbpdebklhnaaGreatDoor
open Go.RowKit

theorem off_up {l a b A s t u AU : Int} (hA : 0 ≤ A) (hs : SetN s) (ht : SetN t) (hu : SetN u) (hU : SetN AU) (h : leqB (offL l a) (offS s t) A AU = true) : leqB (offL l (mxI a b)) (offS s (orS t u)) A AU = true := by
  obtain ⟨S, rfl⟩ := set_bv hs
  obtain ⟨T, rfl⟩ := set_bv ht
  obtain ⟨U, rfl⟩ := set_bv hu
  obtain ⟨W, rfl⟩ := set_bv hU
  unfold leqB at h ⊢
  rw [Bool.and_eq_true] at h ⊢
  obtain ⟨h1, h2⟩ := h
  refine ⟨?_, ?_⟩
  · rw [decide_eq_true_iff] at h1 ⊢
    unfold offL mxI at *
    split <;> split at h1 <;> split at * <;> omega
  · rw [orS_bv, offS_bv]
    rw [offS_bv] at h2
    rw [offS_zero] at h2 ⊢
    intro i hi hb
    refine h2 i hi ?_
    simp only [BitVec.getLsbD_and, BitVec.getLsbD_not, BitVec.getLsbD_or] at hb ⊢
    simp only [Bool.and_eq_true, Bool.not_eq_true', hi, decide_true, Bool.true_and] at hb ⊢
    refine ⟨hb.1, ?_⟩
    have := hb.2
    cases hT : T.getLsbD i
    · rfl
    · rw [hT] at this; simp at this
section
variable {n m : Nat} {lv st pt al au : Nat → Int}
theorem voters_up (g : GoodR n m lv st pt al au) (p : Int) {l s l2 s2 : Int} (hs : SetN s) (hs2 : SetN s2) : (votersL n m lv st pt al au p l s).length ≤ (votersL n m lv st pt al au p (mxI l l2) (orS s s2)).length := by
  unfold votersL
  rw [← List.countP_eq_length_filter, ← List.countP_eq_length_filter]
  refine List.countP_mono_left fun i hi h => ?_
  rw [List.mem_range] at hi
  simp only [Bool.and_eq_true, decide_eq_true_eq] at h ⊢
  refine ⟨h.1, ?_⟩
  obtain ⟨q, hq, eq⟩ := there_nat (g.part i hi)
  have h2 := h.2
  rw [may_on hi hq eq] at h2 ⊢
  have ha : 0 ≤ al i := by have := g.auth i hi; unfold rightB at this; simp at this; omega
  exact off_up ha (g.set q hq) hs hs2 (g.aset i hi) h2
theorem voters_none (g : GoodR n m lv st pt al au) {p : Int} (l s : Int) (hp : thereB p n = false) : votersL n m lv st pt al au p l s = [] := by
  unfold votersL
  rw [List.filter_eq_nil_iff]
  intro i hi h
  rw [List.mem_range] at hi
  simp only [Bool.and_eq_true, decide_eq_true_eq] at h
  have := g.part i hi
  rw [h.1, hp] at this
  cases this
/-- Those of the first k who vote. -/
def votersK (n m : Nat) (lv st pt al au : Nat → Int) (p l s : Int) (k : Nat) : List Nat := (List.range k).filter fun i => decide (pt i = p) && mayB n m lv st pt al au i l s
theorem votersK_next (p l s : Int) (k : Nat) : votersK n m lv st pt al au p l s (k + 1) = votersK n m lv st pt al au p l s k ++ (if (decide (pt k = p) && mayB n m lv st pt al au k l s) = true then [k] else []) := by
  unfold votersK
  rw [List.range_succ, List.filter_append, List.filter_cons]
  rfl
theorem votersK_len (p l s : Int) (k : Nat) : (votersK n m lv st pt al au p l s k).length ≤ k := Nat.le_trans (List.length_filter_le _ _) (by simp)
end
set_option maxHeartbeats 2000000 in
set_option maxRecDepth 100000 in
theorem refvoters_is {w : World} {L B : Option Addr} {n m cl d : Nat} {lv st pt al au : Nat → Int} (hl : LabsAt w L n lv st) (hp : PepsAt w B m pt al au) (g : GoodR n m lv st pt al au) (part l s : Int) (hs : SetN s) :
    Calls Tryz.prog 16 #[.slice L n cl, .slice B m d, .int .i64 part, .agg #[.int .i64 l, .int .u16 s]] w fun e w' => (∃ V v, e = .returned (.slice V (votersL n m lv st pt al au part l s).length v) ∧ NatsAt w' V (votersL n m lv st pt al au part l s)) ∧ Below w.heap.size w w' := by
  have b0 := (Below.refl w.heap.size w).alloc (Nat.le_refl _) (.cells #[.int .i64 l, .int .u16 s] 41)
  have HX := Lib.hid (made_at w (.cells #[.int .i64 l, .int .u16 s] 41))
  have HL := Lib.hid (hl.later b0)
  have HP := Lib.hid (hp.later b0)
  have HG := Lib.hid g
  have HS := Lib.hid hs
  have HB0 := Lib.hid b0
  have h12 : m ≤ 12 := g.len.2.2
  clear b0 hl hp g hs
  obtain ⟨i0, hi, hz0, hz1, hz2⟩ := info_all info_int
  have hall : votersL n m lv st pt al au part l s = votersK n m lv st pt al au part l s m := rfl
  rw [hall]
  clear hall
  go_enter Tryz.func16, Tryz.ntmps16
  go_upto_region 1 with fail
  generalize hW0 : (w.alloc (.cells #[.int .i64 l, .int .u16 s] 41)) = W0 at *
  clear hW0
  go_wp2_with fail
  go_loopw [9, 10] (fun v i wr => ∃ k : Nat, i = .int .i64 k ∧ k ≤ m ∧ Hid (wr.ownsRow W0.heap.size 3 1 v (votersK n m lv st pt al au part l s k).length (natV (votersK n m lv st pt al au part l s k))) ∧ Hid (Below W0.heap.size W0 wr)) (fun _ i _ => m - (intOf i).toNat)
  case atStart => exact ⟨0, rfl, Nat.zero_le _, Lib.hid (World.ownsRow_nil _ _ _ _), Lib.hid (Below.refl _ _)⟩
  case round =>
    obtain ⟨k, rfl, hk, HO, HB⟩ := hrel
    by_cases hlt : k < m
    · obtain ⟨bd, rfl, y0, y1, y2⟩ := (HP.out.later HB.out).at_ hlt
      have x0 := cellH (later_at HB.out HX.out) 0
      have x1 := cellH (later_at HB.out HX.out) 1
      simp at x0 x1
      have HNX := Lib.hid (votersK_next (n := n) (m := m) (lv := lv) (st := st) (pt := pt) (al := al) (au := au) part l s k)
      have HLN := Lib.hid (votersK_len (n := n) (m := m) (lv := lv) (st := st) (pt := pt) (al := al) (au := au) part l s k)
      have hmay := refmay_is (c := cl) (d := d) (HL.out.later HB.out) (HP.out.later HB.out) HG.out.part HG.out.set HG.out.aset (k : Int) l s HS.out
      obtain ⟨mb, hmb⟩ : ∃ mb, mb = mayB n m lv st pt al au (k : Int) l s := ⟨_, rfl⟩
      rw [← hmb] at hmay HNX
      have HMA := Lib.hid hmay
      have hk0 : (0 : Int) ≤ (k : Int) := by omega
      have hkl : (k : Int) < (m : Int) := by omega
      clear hmay hmb y1 y2
      by_cases hpt : pt k = part
      · have n1 : (pt k == part) = true := beq_iff_eq.2 hpt
        have HPT := Lib.hid (decide_eq_true hpt)
        clear hpt
        cases mb with
        | false =>
          go_wp2_with (go_at_call 33; refine HMA.out.mono ?_; rintro e w1 ⟨rfl, hb1⟩; have HB1 := Lib.hid (below_step HB.out hb1); have HO1 := Lib.hid (own_agree HO.out (fun q _ hq => hb1.block q hq)); clear hb1)
          go_roundw
          case rel => exact ⟨k + 1, by go_num, by omega, Lib.hid (by rw [HNX.out]; simpa using HO1.out), HB1⟩
          case measure => simp [intOf]; omega
        | true =>
          have hlen := HLN.out
          go_wp2_with (first
            | (go_at_call 33; refine HMA.out.mono ?_; rintro e w1 ⟨rfl, hb1⟩; have HB1 := Lib.hid (below_step HB.out hb1); have HO1 := Lib.hid (own_agree HO.out (fun q _ hq => hb1.block q hq)); have hsz := HB1.out.size; clear hb1)
            | (at_builtin; refine wpList_append_own _ rfl _ _ 37 rfl W0.heap.size 3 i0 _ 1 8 Tryz.underlying37 hi hz0 hz1 hz2 rfl (by omega) _ (votersK n m lv st pt al au part l s k).length (natV (votersK n m lv st pt al au part l s k)) rfl (HO1.out.alloc _) ⟨w1.heap.size, 0, none⟩ 1 1 [.int .i64 (k : Int)] rfl rfl (one_cell_new w1 _ _) (by simp [Value.oneCell']) (by unfold maxLen; omega) (by omega) (by simp; omega) ?_; intro v2 w2 hown2 hg2 _))
          have hB2 := (HB1.out.alloc hsz (.cells #[.int .i64 (k : Int)] 3)).grown hg2 (by simp; omega) (fun q hq => (own_tag HO1.out hq).1)
          go_roundw
          case rel => exact ⟨k + 1, by go_num, by omega, Lib.hid (by rw [HNX.out]; rw [if_pos (by rw [HPT.out]; rfl)]; simpa [natV] using hown2), Lib.hid hB2⟩
          case measure => simp [intOf]; omega
      · have n1 : (pt k == part) = false := beq_eq_false_iff_ne.2 hpt
        have HPT := Lib.hid (decide_eq_false hpt)
        clear hpt
        go_wp2_with fail
        go_roundw
        case rel => exact ⟨k + 1, by go_num, by omega, Lib.hid (by rw [HNX.out]; rw [if_neg (by rw [HPT.out]; simp)]; simpa using HO.out), HB⟩
        case measure => simp [intOf]; omega
    · obtain rfl : k = m := by omega
      have hlk : ¬ (k : Int) < (k : Int) := by omega
      obtain ⟨A', c', rfl, hN, _⟩ := nats_own HO.out
      have HN := Lib.hid hN.nats
      clear hN
      go_wp2_with fail
      go_ret
      refine ⟨?_, below_step HB0.out HB.out⟩
      first | exact ⟨_, _, rfl, HN.out⟩ | exact ⟨_, ⟨_, rfl⟩, HN.out⟩
end Go.Proofs.YtcddbpdebklhnaaGreatDoor
