/-
  What the document's Same (package lockageref08) answers. Conditions: a million tasks at most, each behind a million at most.
-/
import Derived.Test.YtcfnmjhelhdobaaGreatDoorManR
import Derived.Test.YtcfnmjhelhdobaaGreatDoorManO
import Derived.BigQuiet
import Derived.Deep.QuietTactic
namespace Go.Proofs.YtcfnmjhelhdobaaGreatDoor
open Go.RowKit

theorem cell_of {w : World} {p q : Addr} {v : Value} (hb : p.block = q.block) (ho : p.off = q.off) (hq : q.spot = none) (h : w.cell? p = some v) : w.cell? q = some v := by
  unfold World.cell? at h ⊢
  rw [hb, ho] at h
  rw [hq]
  split at h
  · split at h
    · cases h
    · simpa using h
  · cases h
theorem add_block (ad : Addr) (k : Nat) : (ad.add k).block = ad.block := by unfold Addr.add; split <;> rfl
theorem add_off (ad : Addr) (k : Nat) : (ad.add k).off = ad.off + k := by
  unfold Addr.add
  split
  · omega
  · rfl
theorem TksAt.at_ {w : World} {A : Option Addr} {ts : List TkP} (h : TksAt w A ts) {i : Nat} {t : TkP} (hi : ts[i]? = some t) :
    ∃ ad B c, A = some ad ∧ w.cell? (ad.add (i * 7)) = some (.string t.name) ∧ (∀ (j : Nat) (v : Value), (tkC t (.slice B t.after.length c))[j]? = some v → w.cell? ⟨(ad.add (i * 7)).block, (ad.add (i * 7)).off + j, none⟩ = some v) ∧ NatsAt w B t.after ∧ t.after.length ≤ c := by
  obtain ⟨ad, e, hc⟩ := h (by have := (List.getElem?_eq_some_iff.1 hi).1; omega)
  obtain ⟨B, c, h1, h2, h3⟩ := hc i t hi
  refine ⟨ad, B, c, e, h1 0 _ rfl, fun j v hj => ?_, h2, h3⟩
  exact cell_of (by rw [add_block, add_block]) (by simp only [add_off]; omega) rfl (h1 j v hj)
/-- A task's numbers but those of After, its name. -/
def headS (t u : TkP) : Bool := decide (t.name = u.name ∧ t.retry = u.retry ∧ t.time = u.time ∧ t.need = u.need ∧ t.lv = u.lv ∧ t.st = u.st ∧ t.after.length = u.after.length)
theorem sameT_head {t u : TkP} (h : headS t u = false) : sameT t u = false := by
  cases hs : sameT t u with
  | false => rfl
  | true =>
    obtain rfl := sameT_iff.1 hs
    rw [← h, headS, eq_comm]
    exact decide_eq_true ⟨rfl, rfl, rfl, rfl, rfl, rfl, rfl⟩
theorem sameT_after {t u : TkP} (h : headS t u = true) : sameT t u = decide (t.after = u.after) := by
  obtain ⟨h1, h2, h3, h4, h5, h6, _⟩ := of_decide_eq_true h
  simp [sameT, h1, h2, h3, h4, h5, h6]
abbrev tkA (t : TkP) (B : Option Addr) (c : Nat) : Array Value := #[.string t.name, .slice B t.after.length c, .int .i64 t.retry, .int .i64 t.time, .int .i64 t.need, .int .i64 t.lv, .int .u16 t.st]

theorem Below.drewN_ {w W : World} {n : Nat} (h : Below n w W) (k : Nat) : Below n w (W.drewN k) := ⟨h.os, h.tape, h.output, h.size, h.block⟩
theorem two_made (w : World) (o1 o2 : Obj) : ((w.alloc o1).alloc o2).drew.heap[w.heap.size]? = some o1 ∧ ((w.alloc o1).alloc o2).drew.heap[w.heap.size + 1]? = some o2 ∧ Below w.heap.size w ((w.alloc o1).alloc o2).drew := by
  have b1 := (Below.refl w.heap.size w).alloc (Nat.le_refl _) o1
  have b2 := (Below.refl _ (w.alloc o1)).alloc (Nat.le_refl _) o2
  have m2 := made_at (w.alloc o1) o2
  rw [World.size_alloc] at m2
  exact ⟨later_at b2.drew (made_at w o1), m2, (below_step b1 b2).drew⟩
section
variable {w : World} {A B : Option Addr} {c d : Nat} {n m : ByteArray} {ts us : List TkP}
set_option maxHeartbeats 4000000 in
set_option maxRecDepth 100000 in
theorem refsame_is (hA : TksAt w A ts) (hB : TksAt w B us) (hts : ts.length ≤ 1000000) (hta : ∀ t ∈ ts, t.after.length ≤ 1000000) (hua : ∀ t ∈ us, t.after.length ≤ 1000000) :
    Calls Tryz.prog 11 #[.agg #[.string n, .slice A ts.length c], .agg #[.string m, .slice B us.length d]] w fun e w' => e = .returned (.bool (sameP ⟨n, ts⟩ ⟨m, us⟩)) ∧ Below w.heap.size w w' := by
  obtain ⟨r, hr⟩ : ∃ r, r = sameP ⟨n, ts⟩ ⟨m, us⟩ := ⟨_, rfl⟩
  rw [← hr]
  have HR := Lib.hid hr
  have b1 := (Below.refl w.heap.size w).alloc (Nat.le_refl _) (.cells #[.string n, .slice A ts.length c] 25)
  have b2 := (Below.refl _ (w.alloc (.cells #[.string n, .slice A ts.length c] 25))).alloc (Nat.le_refl _) (.cells #[.string m, .slice B us.length d] 25)
  have HB0 := Lib.hid (below_step b1 b2)
  have HX := Lib.hid (later_at b2 (made_at w (.cells #[.string n, .slice A ts.length c] 25)))
  have m2 := made_at (w.alloc (.cells #[.string n, .slice A ts.length c] 25)) (.cells #[.string m, .slice B us.length d] 25)
  rw [World.size_alloc] at m2
  have HY := Lib.hid m2
  have HA := Lib.hid (hA.later HB0.out)
  have HB := Lib.hid (hB.later HB0.out)
  have HTA := Lib.hid hta
  have HUA := Lib.hid hua
  clear hr b1 b2 m2 hA hB hta hua
  go_enter Tryz.func11, Tryz.ntmps11
  go_upto_region 1 with fail
  generalize hW0 : ((w.alloc (.cells #[.string n, .slice A ts.length c] 25)).alloc (.cells #[.string m, .slice B us.length d] 25)) = W0 at *
  clear hW0
  have x0 := cellH HX.out 0
  have x1 := cellH HX.out 1
  have y0 := cellH HY.out 0
  have y1 := cellH HY.out 1
  simp at x0 x1 y0 y1
  by_cases hnm : n = m
  · have HNM := Lib.hid hnm
    have e1 : (n.toList == m.toList) = true := by rw [ba_same]; exact decide_eq_true hnm
    by_cases hl : ts.length = us.length
    · have HL := Lib.hid hl
      have hl' : ((ts.length : Int) != (us.length : Int)) = false := by rw [bne_eq_false_iff_eq]; omega
      have HS := Lib.hid (show r = sameL (ts.drop 0) (us.drop 0) by rw [HR.out, sameP, decide_eq_true hnm]; rfl)
      clear hnm hl
      go_wp2_with fail
      go_loopw [5] (fun i wr => ∃ k : Nat, i = .int .i64 k ∧ k ≤ ts.length ∧ r = sameL (ts.drop k) (us.drop k) ∧ Below W0.heap.size W0 wr) (fun i _ => ts.length - (intOf i).toNat)
      case atStart => exact ⟨0, rfl, Nat.zero_le _, HS.out, Below.refl _ _⟩
      case round =>
        obtain ⟨k, rfl, hk, hrr, hbw⟩ := hrel
        have HRR := Lib.hid hrr
        have HBW := Lib.hid hbw
        clear hrr hbw x0 x1 y0 y1 HS
        have x0 := cellH (later_at HBW.out HX.out) 0
        have x1 := cellH (later_at HBW.out HX.out) 1
        have y1 := cellH (later_at HBW.out HY.out) 1
        simp at x0 x1 y1
        by_cases hlt : k < ts.length
        · obtain ⟨t, ht⟩ : ∃ t, ts[k]? = some t := ⟨_, List.getElem?_eq_getElem hlt⟩
          obtain ⟨u, hu⟩ : ∃ u, us[k]? = some u := ⟨_, List.getElem?_eq_getElem (by have := HL.out; omega)⟩
          have HS := Lib.hid (show r = (sameT t u && sameL (ts.drop (k + 1)) (us.drop (k + 1))) by rw [HRR.out, drop_any ht, drop_any hu, sameL])
          have hta := HTA.out t (List.mem_of_getElem? ht)
          have hua := HUA.out u (List.mem_of_getElem? hu)
          obtain ⟨pa, B1, c1, rfl, p0, pj, hN1, _⟩ := (HA.out.later HBW.out).at_ ht
          obtain ⟨pb, B2, c2, rfl, q0, qj, hN2, _⟩ := (HB.out.later HBW.out).at_ hu
          have HN1 := Lib.hid hN1
          have HN2 := Lib.hid hN2
          have p1 := pj 1 _ rfl
          have p2 := pj 2 _ rfl
          have p3 := pj 3 _ rfl
          have p4 := pj 4 _ rfl
          have p5 := pj 5 _ rfl
          have p6 := pj 6 _ rfl
          have q1 := qj 1 _ rfl
          have q2 := qj 2 _ rfl
          have q3 := qj 3 _ rfl
          have q4 := qj 4 _ rfl
          have q5 := qj 5 _ rfl
          have q6 := qj 6 _ rfl
          have hpb : (pa.add (k * 7)).block < wr.heap.size := World.block_lt_of_cell? wr _ p0
          have hqb : (pb.add (k * 7)).block < wr.heap.size := World.block_lt_of_cell? wr _ q0
          have hxb : w.heap.size < wr.heap.size := World.block_lt_of_cell? wr _ x1
          have hyb : w.heap.size + 1 < wr.heap.size := World.block_lt_of_cell? wr _ y1
          clear pj qj hN1 hN2 ht hu HRR
          have hk0 : (0 : Int) ≤ (k : Int) := by omega
          have hkl : (k : Int) < (ts.length : Int) := by omega
          have hku : (k : Int) < (us.length : Int) := by have := HL.out; omega
          go_upto_region 6 with fail
          go_cut [6, 7] (fun e1 e2 wx => ∃ X Y : Nat, e1 = .pointer (some ⟨X, 0, none⟩) ∧ e2 = .pointer (some ⟨Y, 0, none⟩) ∧ wx.heap[X]? = some (.cells (tkA t B1 c1) 47 (0, 0)) ∧ wx.heap[Y]? = some (.cells (tkA u B2 c2) 47 (0, 0)) ∧ Below wr.heap.size wr wx)
          case first =>
            go_region
            all_goals
              go_wp2_with fail
              go_meet
              first
                | exact ⟨_, _, rfl, rfl, (two_made wr _ _).1, (two_made wr _ _).2.1, (two_made wr _ _).2.2⟩
                | exact ⟨_, _, rfl, rfl, (two_made wr _ _).2.1, (two_made wr _ _).1, (two_made wr _ _).2.2⟩
          case rest =>
          obtain ⟨X, Y, rfl, rfl, hX, hY, hbc⟩ := hcut
          have HXC := Lib.hid hX
          have HYC := Lib.hid hY
          have HBC := Lib.hid (below_step HBW.out hbc)
          have HNA := Lib.hid (HN1.out.later hbc)
          have HNB := Lib.hid (HN2.out.later hbc)
          clear hX hY hbc HN1 HN2 p0 p1 p2 p3 p4 p5 p6 q0 q1 q2 q3 q4 q5 q6 x0 x1 y1 hpb hqb hxb hyb
          have p0 := cellH HXC.out 0
          have p1 := cellH HXC.out 1
          have p2 := cellH HXC.out 2
          have p3 := cellH HXC.out 3
          have p4 := cellH HXC.out 4
          have p5 := cellH HXC.out 5
          have p6 := cellH HXC.out 6
          have q0 := cellH HYC.out 0
          have q1 := cellH HYC.out 1
          have q2 := cellH HYC.out 2
          have q3 := cellH HYC.out 3
          have q4 := cellH HYC.out 4
          have q5 := cellH HYC.out 5
          have q6 := cellH HYC.out 6
          simp at p0 p1 p2 p3 p4 p5 p6 q0 q1 q2 q3 q4 q5 q6
          go_upto_region 7 with fail
          go_cut [81] (fun e wx => wx = wc ∧ e = .bool (!headS t u))
          case first =>
            by_cases h1 : t.name = u.name
            · have b1 : (t.name.toList == u.name.toList) = true := by rw [ba_same]; exact decide_eq_true h1
              by_cases h2 : t.retry = u.retry
              · have b2 : (t.retry != u.retry) = false := by rw [bne_eq_false_iff_eq]; exact h2
                by_cases h3 : t.time = u.time
                · have b3 : (t.time != u.time) = false := by rw [bne_eq_false_iff_eq]; exact h3
                  by_cases h4 : t.need = u.need
                  · have b4 : (t.need != u.need) = false := by rw [bne_eq_false_iff_eq]; exact h4
                    by_cases h5 : t.lv = u.lv ∧ t.st = u.st
                    · have b5 : sameB t.lv t.st u.lv u.st = true := by simp [sameB, h5.1, h5.2]
                      by_cases h7 : t.after.length = u.after.length
                      · have b6 : ((t.after.length : Int) != (u.after.length : Int)) = false := by rw [bne_eq_false_iff_eq]; omega
                        have HV := Lib.hid (show headS t u = true from decide_eq_true ⟨h1, h2, h3, h4, h5.1, h5.2, h7⟩)
                        clear h1 h2 h3 h4 h5 h7
                        go_wp2_with fail
                        go_meet
                        exact ⟨rfl, by rw [HV.out]; first | rfl | (rw [b7]; rfl)⟩
                      · have b6 : ((t.after.length : Int) != (u.after.length : Int)) = true := by rw [bne_iff_ne]; omega
                        have HV := Lib.hid (show headS t u = false from decide_eq_false (fun h => h7 h.2.2.2.2.2.2))
                        clear h1 h2 h3 h4 h5 h7
                        go_wp2_with fail
                        go_meet
                        exact ⟨rfl, by rw [HV.out]; first | rfl | (rw [b7]; rfl)⟩
                    · have b5 : sameB t.lv t.st u.lv u.st = false := by unfold sameB; simp; exact fun e1 e2 => h5 ⟨e1, e2⟩
                      have HV := Lib.hid (show headS t u = false from decide_eq_false (fun h => h5 ⟨h.2.2.2.2.1, h.2.2.2.2.2.1⟩))
                      clear h1 h2 h3 h4 h5
                      go_wp2_with fail
                      go_meet
                      exact ⟨rfl, by rw [HV.out]; first | rfl | (rw [b7]; rfl)⟩
                  · have b4 : (t.need != u.need) = true := by rw [bne_iff_ne]; exact h4
                    have HV := Lib.hid (show headS t u = false from decide_eq_false (fun h => h4 h.2.2.2.1))
                    clear h1 h2 h3 h4
                    go_wp2_with fail
                    go_meet
                    exact ⟨rfl, by rw [HV.out]; first | rfl | (rw [b7]; rfl)⟩
                · have b3 : (t.time != u.time) = true := by rw [bne_iff_ne]; exact h3
                  have HV := Lib.hid (show headS t u = false from decide_eq_false (fun h => h3 h.2.2.1))
                  clear h1 h2 h3
                  go_wp2_with fail
                  go_meet
                  exact ⟨rfl, by rw [HV.out]; first | rfl | (rw [b7]; rfl)⟩
              · have b2 : (t.retry != u.retry) = true := by rw [bne_iff_ne]; exact h2
                have HV := Lib.hid (show headS t u = false from decide_eq_false (fun h => h2 h.2.1))
                clear h1 h2
                go_wp2_with fail
                go_meet
                exact ⟨rfl, by rw [HV.out]; first | rfl | (rw [b7]; rfl)⟩
            · have b1 : (t.name.toList == u.name.toList) = false := by rw [ba_same]; exact decide_eq_false h1
              have HV := Lib.hid (show headS t u = false from decide_eq_false (fun h => h1 h.1))
              clear h1
              go_wp2_with fail
              go_meet
              exact ⟨rfl, by rw [HV.out]; first | rfl | (rw [b7]; rfl)⟩
          case rest =>
          obtain ⟨hwc, rfl⟩ := hcut
          subst hwc
          obtain ⟨hd, hhd⟩ : ∃ hd, hd = headS t u := ⟨_, rfl⟩
          rw [← hhd]
          have HHD := Lib.hid hhd.symm
          clear hhd
          cases hd with
          | false =>
            have HV := Lib.hid (show r = false by rw [HS.out, sameT_head HHD.out, Bool.false_and])
            go_wp2_with fail
            go_ret
            exact ⟨by rw [HV.out]; rfl, below_step HB0.out HBC.out⟩
          | true =>
            have HAL := Lib.hid (of_decide_eq_true HHD.out).2.2.2.2.2.2
            have HV := Lib.hid (show r = (decide (t.after = u.after) && sameL (ts.drop (k + 1)) (us.drop (k + 1))) by rw [HS.out, sameT_after HHD.out])
            clear HS p0 p2 p3 p4 p5 p6 q0 q2 q3 q4 q5 q6
            go_wp2_with fail
            go_loopw [8] (fun i wo => ∃ j : Nat, i = .int .i64 j ∧ j ≤ t.after.length ∧ decide (t.after = u.after) = decide (t.after.drop j = u.after.drop j) ∧ Below wc.heap.size wc wo) (fun i _ => t.after.length - (intOf i).toNat)
            case atStart => exact ⟨0, rfl, Nat.zero_le _, rfl, Below.refl _ _⟩
            case round =>
              obtain ⟨j, rfl, hj, hdd, hbo⟩ := hrel
              have HDD := Lib.hid hdd
              have HBO := Lib.hid hbo
              clear hdd hbo p1 q1
              have p1 := cellH (later_at HBO.out HXC.out) 1
              have q1 := cellH (later_at HBO.out HYC.out) 1
              simp at p1 q1
              by_cases hlj : j < t.after.length
              · obtain ⟨a, ha⟩ : ∃ a, t.after[j]? = some a := ⟨_, List.getElem?_eq_getElem hlj⟩
                obtain ⟨b, hb⟩ : ∃ b, u.after[j]? = some b := ⟨_, List.getElem?_eq_getElem (by have := HAL.out; omega)⟩
                obtain ⟨ad1, rfl, z1⟩ := (HNA.out.later HBO.out).at_ ha
                obtain ⟨ad2, rfl, z2⟩ := (HNB.out.later HBO.out).at_ hb
                have HE := Lib.hid (show decide (t.after = u.after) = (decide (a = b) && decide (t.after.drop (j + 1) = u.after.drop (j + 1))) by
                  rw [HDD.out, drop_any ha, drop_any hb, ← Bool.decide_and]
                  exact decide_eq_decide.2 (by simp))
                clear ha hb HDD
                have hj0 : (0 : Int) ≤ (j : Int) := by omega
                have hjl : (j : Int) < (t.after.length : Int) := by omega
                have hju : (j : Int) < (u.after.length : Int) := by have := HAL.out; omega
                by_cases hab : a = b
                · have hn : ((a : Int) != (b : Int)) = false := by rw [bne_eq_false_iff_eq]; omega
                  have HE2 := Lib.hid (show decide (t.after = u.after) = decide (t.after.drop (j + 1) = u.after.drop (j + 1)) by rw [HE.out, decide_eq_true hab, Bool.true_and])
                  clear hab
                  go_upto_region 12 with fail
                  go_quiet (fail)
                  go_wp2_with fail
                  go_roundw
                  case rel => exact ⟨j + 1, by go_num, by omega, HE2.out, Below.drewN_ HBO.out _⟩
                  case measure => simp [intOf]; omega
                · have hn : ((a : Int) != (b : Int)) = true := by rw [bne_iff_ne]; omega
                  have HV2 := Lib.hid (show r = false by rw [HV.out, HE.out, decide_eq_false hab]; rfl)
                  clear hab
                  go_upto_region 12 with fail
                  go_quiet (fail)
                  go_wp2_with fail
                  go_ret
                  exact ⟨by rw [HV2.out]; rfl, below_step (below_step HB0.out HBC.out) (Below.drewN_ HBO.out _)⟩
              · have hlj2 : ¬ (j : Int) < (t.after.length : Int) := by omega
                have HV2 := Lib.hid (show r = sameL (ts.drop (k + 1)) (us.drop (k + 1)) by rw [HV.out, HDD.out, List.drop_eq_nil_of_le (by omega : t.after.length ≤ j), List.drop_eq_nil_of_le (by have := HAL.out; omega : u.after.length ≤ j)]; rfl)
                go_wp2_with fail
                go_roundw
                case rel => exact ⟨k + 1, by go_num, by omega, HV2.out, below_step HBC.out HBO.out⟩
                case measure => simp [intOf]; omega
        · have hlk : ¬ (k : Int) < (ts.length : Int) := by omega
          have HV := Lib.hid (show r = true by rw [HRR.out, List.drop_eq_nil_of_le (by omega : ts.length ≤ k), List.drop_eq_nil_of_le (by have := HL.out; omega : us.length ≤ k)]; rfl)
          go_wp2_with fail
          go_ret
          exact ⟨by rw [HV.out]; rfl, below_step HB0.out HBW.out⟩
    · have hl' : ((ts.length : Int) != (us.length : Int)) = true := by rw [bne_iff_ne]; omega
      have HV := Lib.hid (show r = false by rw [HR.out, sameP, sameL_len hl, Bool.and_false])
      go_wp2_with fail
      go_ret
      exact ⟨by rw [HV.out]; rfl, HB0.out⟩
  · have e1 : (n.toList == m.toList) = false := by rw [ba_same]; exact decide_eq_false hnm
    have HV := Lib.hid (show r = false by rw [HR.out, sameP, decide_eq_false hnm, Bool.false_and])
    clear hnm
    go_wp2_with fail
    go_ret
    exact ⟨by rw [HV.out]; rfl, HB0.out⟩
end
end Go.Proofs.YtcfnmjhelhdobaaGreatDoor
