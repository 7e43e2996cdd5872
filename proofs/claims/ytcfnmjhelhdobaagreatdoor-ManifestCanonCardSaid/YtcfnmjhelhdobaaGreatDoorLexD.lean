/-
  What the document's Lines (package lockageref07) answers: any text's lines, or where it is wrong. No conditions.
-/
import Derived.Test.YtcfnmjhelhdobaaGreatDoorProg
import Derived.Test.YtcfnmjhelhdobaaGreatDoorLexC
import Derived.Deep.DeepCutAuto
import Derived.BigRegion
import Derived.Outline
namespace Go.Proofs.YtcfnmjhelhdobaaGreatDoor
open Go.RowKit

theorem info_rwd : (Tryz.prog.info? 57).map (fun i => (i.zero, i.size, i.bytes)) = some (some (.agg #[.string ⟨#[]⟩, .int .i64 0]), 2, 24) := by kernel_rfl
theorem info_rws : (Tryz.prog.info? 58).map (fun i => (i.zero, i.size, i.bytes)) = some (some (.slice none 0 0), 1, 24) := by kernel_rfl
theorem info_all {t : TypeId} {z : Option Value} {n b : Nat} (h : (Tryz.prog.info? t).map (fun i => (i.zero, i.size, i.bytes)) = some (z, n, b)) : ∃ i, Tryz.prog.info? t = some i ∧ i.zero = z ∧ i.size = n ∧ i.bytes = b := by
  cases hi : Tryz.prog.info? t with
  | none => rw [hi] at h; exact absurd h (by simp)
  | some i =>
    rw [hi] at h
    simp only [Option.map_some, Option.some.injEq, Prod.mk.injEq] at h
    exact ⟨i, rfl, h.1, h.2.1, h.2.2⟩
theorem own_slice {base : Nat} {e : TypeId} {size n : Nat} {v : Value} {xs : List Value} {W : World} (h : W.ownsRow base e size v n xs) : ∃ A c, v = .slice A n c := by
  rcases h.2 with ⟨rfl, e⟩ | ⟨g, cap, cur, rfl, _⟩
  · exact ⟨_, _, by rw [e]⟩
  · exact ⟨_, _, rfl⟩
theorem cells_new (w : World) (xs : List Value) (t : TypeId) : ∀ j u, xs[j]? = some u → (w.alloc (.cells xs.toArray t)).cell? ((⟨w.heap.size, 0, none⟩ : Addr).add j) = some u := by
  intro j u hu
  have hadd : (⟨w.heap.size, 0, none⟩ : Addr).add j = ⟨w.heap.size, j, none⟩ := by unfold Addr.add; split <;> simp_all
  rw [hadd, cellH (made_at w (.cells xs.toArray t)) j]
  simpa using hu

theorem ba_some {s : ByteArray} (h : ¬ s = .empty) : s.toList.isEmpty = false := by
  rw [Go.ByteArray.toList_eq]
  cases hd : s.data.toList with
  | nil => exact absurd (ByteArray.ext (Array.toList_inj.1 (hd.trans rfl))) h
  | cons x l => rfl

def LxOut (w : World) (r : LxR) (e : Ending) (w' : World) : Prop := Below w.heap.size w w' ∧ match r with
  | .bad x p => e = .returned (.tuple #[.slice none 0 0, .int .i64 x, .int .i64 p])
  | .good L => ∃ A c, e = .returned (.tuple #[.slice A L.length c, .int .i64 0, .int .i64 0]) ∧ LnsNew w.heap.size w' A L

set_option maxHeartbeats 1000000 in
set_option maxRecDepth 100000 in
theorem reflines_is (s : ByteArray) (w : World) : Calls Tryz.prog 18 #[.string s] w (LxOut w (lexP s)) := by
  by_cases hs : 600 < s.size
  · have hp : lexP s = .bad 16 600 := if_pos hs
    rw [hp]
    go_enter Tryz.func18, Tryz.ntmps18
    go_wp2_with fail
    refine bodyPost_ret (v := .tuple #[.slice none 0 0, .int .i64 16, .int .i64 600]) (by simp [results, Tryz.results18, go_sem]) rfl ⟨Below.refl _ _, rfl⟩
  · obtain ⟨r, hr⟩ : ∃ r, r = lexP s := ⟨_, rfl⟩
    have HR0 := Lib.hid (show r = lexGo s s.size 0 lx0 from hr.trans (if_neg hs))
    rw [← hr]
    clear hr
    have hn6 : s.size ≤ 600 := by omega
    clear hs
    obtain ⟨iw, hiw, hw0, hw1, hw2⟩ := info_all info_rwd
    obtain ⟨is, his, hs0, hs1, hs2⟩ := info_all info_rws
    have HZ0 := Lib.hid (made_at w (.cells #[.string ⟨#[]⟩, .int .i64 0] 57))
    have HB0 := Lib.hid ((Below.refl w.heap.size w).alloc (Nat.le_refl _) (.cells #[.string ⟨#[]⟩, .int .i64 0] 57))
    have HT := Lib.hid (show (57 : Nat) ≠ 58 by decide)
    have HBY := Lib.hid (byL_at s)
    have HRW := Lib.hid (LRows.nil 57 58 (w.heap.size + 1) (w.alloc (.cells #[.string ⟨#[]⟩, .int .i64 0] 57)) (by simp))
    go_enter Tryz.func18, Tryz.ntmps18
    go_wp2_with fail
    go_loopw [5, 6, 8] (fun v5 v6 i wr => ∃ (k : Nat) (so : List (List Wd)) (sl : List Wd) (sw : ByteArray) (sa : Nat) (vs : List Value) (lb : Nat), i = .int .i64 k ∧ k ≤ s.size + 1 ∧ ((k ≤ s.size ∧ r = lexGo s (s.size - k) k ⟨so, sl, sw, sa⟩) ∨ (k = s.size + 1 ∧ r = .good so)) ∧ wr.heap[w.heap.size]? = some (.cells #[.string sw, .int .i64 sa] 57 (0, 0)) ∧
      LRows 57 58 (w.heap.size + 1) lb sl so v6 v5 vs wr ∧ Below w.heap.size w wr ∧ sl.length ≤ k ∧ so.length ≤ k ∧ sw.size ≤ k) (fun _ _ i _ => s.size + 1 - (intOf i).toNat)
    case atStart => exact ⟨0, [], [], .empty, 0, [], w.heap.size + 1, rfl, by omega, .inl ⟨by omega, HR0.out⟩, HZ0.out, HRW.out, HB0.out, Nat.le_refl _, Nat.le_refl _, Nat.le_refl _⟩
    case round =>
      obtain ⟨k, so, sl, sw, sa, vs, lb, rfl, hk, hrr, hz, hrw, hb, hll, hol, hwl⟩ := hrel
      clear HZ0 HB0 HRW HR0
      have HRR := Lib.hid hrr
      have HZ := Lib.hid hz
      have HRW := Lib.hid hrw
      have HB := Lib.hid hb
      have HLL := Lib.hid hll
      have HOL := Lib.hid hol
      obtain ⟨A6, c6, rfl⟩ := own_slice hrw.rl
      obtain ⟨A5, c5, rfl⟩ := own_slice hrw.ro
      have HWL := Lib.hid hwl
      clear hrr hz hrw hb hll hol hwl
      by_cases hend : k = s.size + 1
      · have HV := Lib.hid (show r = .good so by
          rcases HRR.out with ⟨h, _⟩ | ⟨_, h⟩
          · omega
          · exact h)
        obtain ⟨A, c, e, hL, _⟩ := HRW.out.lns
        obtain ⟨rfl, rfl⟩ : A5 = A ∧ c5 = c := by
          injection e with e1 e2 e3
          exact ⟨e1, e3⟩
        clear HRR
        go_wp2_with fail
        refine bodyPost_ret (v := .tuple #[.slice A5 so.length c5, .int .i64 0, .int .i64 0]) (by simp [results, Tryz.results18, go_sem]) rfl ⟨HB.out, ?_⟩
        rw [HV.out]
        exact ⟨A5, c5, rfl, hL.wide (Nat.le_succ _)⟩
      · have hk2 : k ≤ s.size := by omega
        have HRK := Lib.hid (show r = lexGo s (s.size - k) k ⟨so, sl, sw, sa⟩ by
          rcases HRR.out with ⟨_, h⟩ | ⟨h, _⟩
          · exact h
          · omega)
        clear HRR
        have z0 := cellH HZ.out 0
        have z1 := cellH HZ.out 1
        have zf := freeH HZ.out
        simp at z0 z1
        go_upto_if 23 with fail
        go_cut [9] (fun c wx => ∃ cv : Int, c = .int .u8 cv ∧ wx = wr ∧ ((k = s.size ∧ cv = 10) ∨ (k < s.size ∧ cv = byL s k)))
        case first =>
          by_cases hlt : k < s.size
          · go_wp2_with fail
            go_meet
            exact ⟨_, rfl, rfl, .inr ⟨hlt, HBY.out k hlt⟩⟩
          · go_wp2_with fail
            go_meet
            exact ⟨10, rfl, rfl, .inl ⟨by omega, rfl⟩⟩
        case rest =>
        obtain ⟨cv, rfl, rfl, hcv⟩ := hcut
        have HCV := Lib.hid hcv
        clear hcv
        by_cases hw : 32 < cv ∧ cv < 127
        · obtain ⟨hlt, hcb⟩ : k < s.size ∧ cv = byL s k := by
            rcases HCV.out with ⟨_, h⟩ | h
            · omega
            · exact h
          obtain ⟨f, hf⟩ : ∃ f, s.size - k = f + 1 := ⟨s.size - k - 1, by omega⟩

          have HRN := Lib.hid (show r = lexGo s (s.size - (k + 1)) (k + 1) ((⟨so, sl, sw, sa⟩ : LxS).push (s.extract k (k + 1)) k) by
            rw [HRK.out, hf, lexGo_word (by omega) (by omega), show s.size - (k + 1) = f by omega])
          have hcat : ¬ 9223372036854775807 < sw.size + (s.extract k (k + 1)).size := by have := HWL.out; rw [ByteArray.size_extract]; omega
          have hcat2 := hcat
          rw [ByteArray.size_extract] at hcat2
          have ab1 : (k : Int) ≤ (k : Int) + 1 := by omega
          have ab2 : (k : Int) + 1 ≤ (s.size : Int) := by omega
          have ab3 : (0 : Int) ≤ (k : Int) := by omega
          have ab4 : (0 : Int) ≤ (k : Int) + 1 := by omega
          clear hcb HCV HRK hf
          by_cases hwe : sw = .empty
          · subst hwe
            go_upto_region 15 with fail
            generalize hW : wc.setCell ⟨w.heap.size, 1, none⟩ (.int .i64 k) = W1
            have HZ1 := Lib.hid (show W1.heap[w.heap.size]? = some (.cells #[.string .empty, .int .i64 k] 57 (0, 0)) by rw [← hW, row_set HZ.out]; rfl)
            have HRW1 := Lib.hid (show LRows 57 58 (w.heap.size + 1) lb sl so _ _ vs W1 by rw [← hW]; exact HRW.out.set (by omega) _)
            have HB1 := Lib.hid (show Below w.heap.size w W1 by rw [← hW]; exact HB.out.setCell (Nat.le_refl _) _)
            clear z0 z1 zf hW HZ HRW HB
            have y0 := cellH HZ1.out 0
            have y1 := cellH HZ1.out 1
            have yf := freeH HZ1.out
            simp at y0 y1

            go_region
            go_wp2_with fail
            go_roundw
            case rel =>
              have h := HRN.out
              rw [push_empty] at h
              refine ⟨k + 1, so, sl, (s.extract k (k + 1)), k, vs, lb, by go_num, by omega, .inl ⟨by omega, h⟩, ?_, (HRW1.out.set (by omega) _).later (Below.refl _ _).drew, (HB1.out.setCell (Nat.le_refl _) _).drew, by have := HLL.out; exact Nat.le_succ_of_le this, by have := HOL.out; exact Nat.le_succ_of_le this, by rw [ByteArray.size_extract]; omega⟩
              exact (row_set HZ1.out).trans rfl
            case measure => simp [intOf]; omega
          · have hwi : sw.toList.isEmpty = false := ba_some hwe
            have HWE := Lib.hid hwe
            clear hwe
            go_upto_region 15 with fail
            have HZ1 := HZ
            have HRW1 := HRW
            have HB1 := HB

            go_region
            go_wp2_with fail
            go_roundw
            case rel =>
              have h := HRN.out
              rw [push_more HWE.out] at h
              refine ⟨k + 1, so, sl, (sw ++ s.extract k (k + 1)), sa, vs, lb, by go_num, by omega, .inl ⟨by omega, h⟩, ?_, (HRW1.out.set (by omega) _).later (Below.refl _ _).drew, (HB1.out.setCell (Nat.le_refl _) _).drew, by have := HLL.out; exact Nat.le_succ_of_le this, by have := HOL.out; exact Nat.le_succ_of_le this, by have := HWL.out; rw [ByteArray.size_append, ByteArray.size_extract]; omega⟩
              exact (row_set HZ1.out).trans rfl
            case measure => simp [intOf]; omega
        · have hwb0 : ¬ (32 < cv ∧ cv < 127) := hw
          by_cases h10 : cv = 10
          · have HRN := Lib.hid (show (k + 1 ≤ s.size ∧ r = lexGo s (s.size - (k + 1)) (k + 1) (⟨so, sl, sw, sa⟩ : LxS).feed) ∨ (k + 1 = s.size + 1 ∧ r = .good (⟨so, sl, sw, sa⟩ : LxS).feed.out) by
              rcases HCV.out with ⟨h, _⟩ | ⟨h, hcb⟩
              · exact .inr ⟨by omega, by rw [HRK.out, show s.size - k = 0 by omega]; rfl⟩
              · obtain ⟨f, hf⟩ : ∃ f, s.size - k = f + 1 := ⟨s.size - k - 1, by omega⟩
                exact .inl ⟨h, by rw [HRK.out, hf, lexGo_feed (by omega), show s.size - (k + 1) = f by omega]⟩)
            clear HCV HRK hwb0 hw
            subst h10
            by_cases hwe : sw = .empty
            · subst hwe
              by_cases hle : sl = []
              · subst hle
                go_wp2_with fail
                go_roundw
                case rel =>
                  have h := HRN.out
                  rw [feed_none] at h
                  exact ⟨k + 1, _, _, _, _, vs, lb, by go_num, by omega, h, HZ.out, HRW.out, HB.out, Nat.zero_le _, Nat.le_succ_of_le HOL.out, Nat.zero_le _⟩
                case measure => simp [intOf]; omega
              · have HLE := Lib.hid hle
                have hl0 : 0 < (sl.length : Int) := by
                  have := List.length_pos_iff.2 hle
                  omega
                clear hle
                have HL6 := Lib.hid ((Below.refl _ wc).alloc (Nat.le_refl _) (.cells #[.slice A6 sl.length c6] 58))
                have HRW6 := Lib.hid (HRW.out.later HL6.out)
                have HB6 := Lib.hid (below_step HB.out HL6.out)
                have HZ6 := Lib.hid (later_at HL6.out HZ.out)
                have HNW6 := Lib.hid (cells_new wc [.slice A6 sl.length c6] 58)
                go_wp2_with (at_builtin; refine wpList_append_own _ rfl (.tmp 69) (.tmp 71) 53 rfl (w.heap.size + 1) 58 is _ 1 24 Tryz.underlying53 his hs0 hs1 hs2 rfl (by omega) (.slice A5 so.length c5) so.length vs rfl HRW6.out.ro ⟨wc.heap.size, 0, none⟩ 1 1 [.slice A6 sl.length c6] rfl rfl HNW6.out (by simp [Value.oneCell']) (by have := HOL.out; unfold maxLen; omega) (by have := HOL.out; omega) (Nat.le_trans HRW6.out.rb.1 HRW6.out.rb.2) ?_; intro v8 w8 hown8 hg8 _; have HRW8 := Lib.hid (HRW6.out.next HT.out HLE.out hg8 hown8); have HB8 := Lib.hid (HRW6.out.belowO HB6.out hg8 (Nat.le_succ _) HB6.out.size); have HZ8 := Lib.hid ((HRW6.out.aheadO hg8 (Nat.lt_succ_self _)).trans HZ6.out); clear hown8 hg8)
                go_roundw
                case rel =>
                  have h := HRN.out
                  rw [feed_line HLE.out] at h
                  exact ⟨k + 1, _, _, _, _, _, _, by go_num, by omega, h, HZ8.out, HRW8.out, HB8.out, by simp, by have := HOL.out; simp; omega, by simp⟩
                case measure => simp [intOf]; omega

            · have hwi : sw.toList.isEmpty = false := ba_some hwe
              have HWE := Lib.hid hwe
              clear hwe
              have HL2 := Lib.hid ((Below.refl _ wc).alloc (Nat.le_refl _) (.cells #[.string sw, .int .i64 sa] 57))
              have HRW2 := Lib.hid (HRW.out.later HL2.out)
              have HB2 := Lib.hid (below_step HB.out HL2.out)
              have HZ2 := Lib.hid (later_at HL2.out HZ.out)
              have HNW := Lib.hid (cells_new wc [.string sw, .int .i64 sa] 57)
              go_upto_region 20 with (at_builtin; refine wpList_append_own _ rfl (.tmp 57) (.tmp 59) 58 rfl lb 57 iw _ 2 24 Tryz.underlying58 hiw hw0 hw1 hw2 rfl (by omega) (.slice A6 sl.length c6) sl.length (wdCells sl) rfl HRW2.out.rl ⟨wc.heap.size, 0, none⟩ 1 1 (wdC ⟨sw, sa⟩) rfl rfl HNW.out (by simp [wdC, Value.oneCell']) (by have := HLL.out; unfold maxLen; omega) (by have := HLL.out; omega) HRW2.out.rb.2 ?_; intro v2 w3 hown2 hg2 _; have HRW3 := Lib.hid (HRW2.out.more HT.out ⟨sw, sa⟩ hg2 hown2); have HB3 := Lib.hid (HRW2.out.belowL HB2.out hg2 (Nat.le_succ _) HB2.out.size); have HZ3 := Lib.hid ((HRW2.out.aheadL hg2 (Nat.lt_succ_self _)).trans HZ2.out); obtain ⟨A7, c7, rfl⟩ := own_slice hown2; clear hown2 hg2)
              clear z0 z1 zf HZ HRW HB HL2 HRW2 HB2 HZ2 HNW
              have y0 := cellH HZ3.out 0
              have y1 := cellH HZ3.out 1
              have yf := freeH HZ3.out
              simp at y0 y1
              go_upto_region 21 with fail
              generalize hW : (w3.setCell ⟨w.heap.size, 0, none⟩ (.string ⟨#[]⟩)).setCell ⟨w.heap.size, 1, none⟩ (.int .i64 0) = W5
              have HZ5 := Lib.hid (show W5.heap[w.heap.size]? = some (.cells #[.string ⟨#[]⟩, .int .i64 0] 57 (0, 0)) by rw [← hW, row_set (row_set HZ3.out)]; rfl)
              have HRW5 := Lib.hid (show LRows 57 58 (w.heap.size + 1) lb (sl ++ [⟨sw, sa⟩]) so _ _ vs W5 by rw [← hW]; exact (HRW3.out.set (Nat.lt_succ_self _) _).set (Nat.lt_succ_self _) _)
              have HB5 := Lib.hid (show Below w.heap.size w W5 by rw [← hW]; exact (HB3.out.setCell (Nat.le_refl _) _).setCell (Nat.le_refl _) _)
              clear y0 y1 yf hW HZ3 HRW3 HB3

              have hl0 : 0 < ((sl.length + 1 : Nat) : Int) := by omega

              have HL6 := Lib.hid ((Below.refl _ W5).alloc (Nat.le_refl _) (.cells #[.slice A7 (sl.length + 1) c7] 58))
              have HRW6 := Lib.hid (HRW5.out.later HL6.out)
              have HB6 := Lib.hid (below_step HB5.out HL6.out)
              have HZ6 := Lib.hid (later_at HL6.out HZ5.out)
              have HNW6 := Lib.hid (cells_new W5 [.slice A7 (sl.length + 1) c7] 58)
              go_wp2_with (at_builtin; refine wpList_append_own _ rfl (.tmp 69) (.tmp 71) 53 rfl (w.heap.size + 1) 58 is _ 1 24 Tryz.underlying53 his hs0 hs1 hs2 rfl (by omega) (.slice A5 so.length c5) so.length vs rfl HRW6.out.ro ⟨W5.heap.size, 0, none⟩ 1 1 [.slice A7 (sl.length + 1) c7] rfl rfl HNW6.out (by simp [Value.oneCell']) (by have := HOL.out; unfold maxLen; omega) (by have := HOL.out; omega) (Nat.le_trans HRW6.out.rb.1 HRW6.out.rb.2) ?_; intro v8 w8 hown8 hg8 _; have HRW8 := Lib.hid (HRW6.out.next HT.out (by simp) hg8 hown8); have HB8 := Lib.hid (HRW6.out.belowO HB6.out hg8 (Nat.le_succ _) HB6.out.size); have HZ8 := Lib.hid ((HRW6.out.aheadO hg8 (Nat.lt_succ_self _)).trans HZ6.out); clear hown8 hg8)
              go_roundw
              case rel =>
                have h := HRN.out
                rw [feed_more HWE.out] at h
                exact ⟨k + 1, _, _, _, _, _, _, by go_num, by omega, h, HZ8.out, HRW8.out, HB8.out, by simp, by have := HOL.out; simp; omega, by simp⟩
              case measure => simp [intOf]; omega

          · by_cases h32 : cv = 32
            · obtain ⟨hlt, hcb⟩ : k < s.size ∧ cv = byL s k := by
                rcases HCV.out with ⟨_, h⟩ | h
                · omega
                · exact h
              obtain ⟨f, hf⟩ : ∃ f, s.size - k = f + 1 := ⟨s.size - k - 1, by omega⟩

              have HRN := Lib.hid (show r = lexGo s (s.size - (k + 1)) (k + 1) (⟨so, sl, sw, sa⟩ : LxS).space by
                rw [HRK.out, hf, lexGo_space (by omega), show s.size - (k + 1) = f by omega])
              clear hcb HCV HRK hf hwb0 hw h10
              subst h32
              by_cases hwe : sw = .empty
              · subst hwe
                go_wp2_with fail
                go_roundw
                case rel =>
                  have h := HRN.out
                  rw [space_empty] at h
                  exact ⟨k + 1, _, _, _, _, vs, lb, by go_num, by omega, .inl ⟨by omega, h⟩, HZ.out, HRW.out, HB.out, Nat.le_succ_of_le HLL.out, Nat.le_succ_of_le HOL.out, Nat.zero_le _⟩
                case measure => simp [intOf]; omega
              · have hwi : sw.toList.isEmpty = false := ba_some hwe
                have HWE := Lib.hid hwe
                clear hwe
                have HL2 := Lib.hid ((Below.refl _ wc).alloc (Nat.le_refl _) (.cells #[.string sw, .int .i64 sa] 57))
                have HRW2 := Lib.hid (HRW.out.later HL2.out)
                have HB2 := Lib.hid (below_step HB.out HL2.out)
                have HZ2 := Lib.hid (later_at HL2.out HZ.out)
                have HNW := Lib.hid (cells_new wc [.string sw, .int .i64 sa] 57)
                go_upto_region 20 with (at_builtin; refine wpList_append_own _ rfl (.tmp 57) (.tmp 59) 58 rfl lb 57 iw _ 2 24 Tryz.underlying58 hiw hw0 hw1 hw2 rfl (by omega) (.slice A6 sl.length c6) sl.length (wdCells sl) rfl HRW2.out.rl ⟨wc.heap.size, 0, none⟩ 1 1 (wdC ⟨sw, sa⟩) rfl rfl HNW.out (by simp [wdC, Value.oneCell']) (by have := HLL.out; unfold maxLen; omega) (by have := HLL.out; omega) HRW2.out.rb.2 ?_; intro v2 w3 hown2 hg2 _; have HRW3 := Lib.hid (HRW2.out.more HT.out ⟨sw, sa⟩ hg2 hown2); have HB3 := Lib.hid (HRW2.out.belowL HB2.out hg2 (Nat.le_succ _) HB2.out.size); have HZ3 := Lib.hid ((HRW2.out.aheadL hg2 (Nat.lt_succ_self _)).trans HZ2.out); obtain ⟨A7, c7, rfl⟩ := own_slice hown2; clear hown2 hg2)
                clear z0 z1 zf HZ HRW HB HL2 HRW2 HB2 HZ2 HNW
                have y0 := cellH HZ3.out 0
                have y1 := cellH HZ3.out 1
                have yf := freeH HZ3.out
                simp at y0 y1
                go_upto_region 21 with fail
                generalize hW : (w3.setCell ⟨w.heap.size, 0, none⟩ (.string ⟨#[]⟩)).setCell ⟨w.heap.size, 1, none⟩ (.int .i64 0) = W5
                have HZ5 := Lib.hid (show W5.heap[w.heap.size]? = some (.cells #[.string ⟨#[]⟩, .int .i64 0] 57 (0, 0)) by rw [← hW, row_set (row_set HZ3.out)]; rfl)
                have HRW5 := Lib.hid (show LRows 57 58 (w.heap.size + 1) lb (sl ++ [⟨sw, sa⟩]) so _ _ vs W5 by rw [← hW]; exact (HRW3.out.set (Nat.lt_succ_self _) _).set (Nat.lt_succ_self _) _)
                have HB5 := Lib.hid (show Below w.heap.size w W5 by rw [← hW]; exact (HB3.out.setCell (Nat.le_refl _) _).setCell (Nat.le_refl _) _)
                clear y0 y1 yf hW HZ3 HRW3 HB3

                go_wp2_with fail
                go_roundw
                case rel =>
                  have h := HRN.out
                  rw [space_more HWE.out] at h
                  exact ⟨k + 1, _, _, _, _, vs, lb, by go_num, by omega, .inl ⟨by omega, h⟩, HZ5.out, HRW5.out, HB5.out, by have := HLL.out; simp; omega, Nat.le_succ_of_le HOL.out, by simp⟩
                case measure => simp [intOf]; omega
            · obtain ⟨hlt, hcb⟩ : k < s.size ∧ cv = byL s k := by
                rcases HCV.out with ⟨_, h⟩ | h
                · omega
                · exact h
              obtain ⟨f, hf⟩ : ∃ f, s.size - k = f + 1 := ⟨s.size - k - 1, by omega⟩

              have HRN := Lib.hid (show r = .bad 3 k by rw [HRK.out, hf, lexGo_bad (by omega) (by omega) (by omega)])
              clear hcb HCV HRK hf
              have hb1 : (cv != 10) = true := by rw [bne_iff_ne]; exact h10
              have hb2 : (cv != 32) = true := by rw [bne_iff_ne]; exact h32
              by_cases h3 : 32 < cv
              · have h4 : ¬ cv < 127 := fun e => hw ⟨h3, e⟩
                clear hw hwb0
                go_wp2_with fail
                refine bodyPost_ret (v := .tuple #[.slice none 0 0, .int .i64 3, .int .i64 k]) (by simp [results, Tryz.results18, go_sem]) rfl ⟨HB.out, ?_⟩
                rw [HRN.out]
                exact rfl
              · clear hw hwb0
                go_wp2_with fail
                refine bodyPost_ret (v := .tuple #[.slice none 0 0, .int .i64 3, .int .i64 k]) (by simp [results, Tryz.results18, go_sem]) rfl ⟨HB.out, ?_⟩
                rw [HRN.out]
                exact rfl
end Go.Proofs.YtcfnmjhelhdobaaGreatDoor
