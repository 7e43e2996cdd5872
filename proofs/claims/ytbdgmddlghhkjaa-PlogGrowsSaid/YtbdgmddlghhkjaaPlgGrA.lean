/-
  The law PlogGrows, walked. No conditions but how the argument lies in memory.
-/
import Derived.Test.YtbdgmddlghhkjaaPlgW
import Derived.Maps.AppendAt
namespace Go.Proofs.Ytbdgmddlghhkjaa
open Go.RowKit

def bsG : ByteArray := ⟨#[98, 97, 115, 101]⟩
theorem gr_a1 : appendR (refOf 200 noLog) ⟨#[]⟩ ⟨#[98, 97, 115, 101]⟩ = (refOf 200 ⟨1, ⟨#[98, 97, 115, 101]⟩, [], 1⟩, 0) := by rfl
theorem gr_a2 {bs t : ByteArray} {recs : List ByteArray} {at_ : Int} (h : at_ + cntN t.size ≤ 200) : appendR (refOf 200 ⟨1, bs, recs, at_⟩) t ⟨#[]⟩ = (refOf 200 ⟨1, bs, recs ++ [t], at_ + cntN t.size⟩, 0) := by
  unfold appendR refOf
  simp only
  rw [if_neg (by omega), if_pos ⟨by omega, h⟩]
theorem room1 {half at_ : Int} {bs : ByteArray} {recs : List ByteArray} : roomV half ⟨1, bs, recs, at_⟩ = half - at_ := by
  unfold roomV
  rw [if_neg (show ¬ (1 : Int) = 0 by decide)]

section
variable {w : World} {A : Option Addr} {cc : Nat} {L : List ByteArray}
set_option maxHeartbeats 400000 in
set_option maxRecDepth 100000 in
theorem grows_long (h : 60 < L.length) : Calls Try.prog 6 #[.slice A L.length cc] w fun e w' => e = .returned (.bool true) ∧ Below w.heap.size w w' := by
  generalize L.length = n at *
  go_enter Try.func6, Try.ntmps6
  go_wp2_with fail
  refine (awake_true _).mono ?_
  rintro e w1 ⟨rfl, hb1⟩
  go_wp2_with fail
  refine (awake_true _).mono ?_
  rintro e w2 ⟨rfl, hb2⟩
  have hB := below_step hb1 hb2
  clear hb1 hb2
  go_wp2_with fail
  go_ret
  exact ⟨rfl, hB⟩

/-- What is held while the records are kept. -/
structure GrS (w : World) (L : List ByteArray) (D B k : Nat) (l at_ : Int) (st : Dk) (v u : Value) (W : World) : Prop where
  log : LogM W w.heap.size D B (k + 1) ⟨0, 200, 1, l⟩ ⟨1, ⟨#[98, 97, 115, 101]⟩, L.take k, at_⟩ st v
  arm : st.armed = 0
  at1 : 1 ≤ at_
  at2 : at_ ≤ 1 + 3 * k
  row : W.ownsRow w.heap.size 9 1 u k (txV (L.take k))
  ne : ∀ g, u.ownBlock = some g → v.ownBlock ≠ some g
  low : Below w.heap.size w W

set_option maxHeartbeats 2000000 in
set_option maxRecDepth 100000 in
theorem grows_good (hA : TextsAt w A L) (hn : L.length ≤ 60) : Calls Try.prog 6 #[.slice A L.length cc] w fun e w' => e = .returned (.bool true) ∧ Below w.heap.size w w' := by
  have HA := Lib.hid hA
  obtain ⟨n, hnn⟩ : ∃ n, n = L.length := ⟨_, rfl⟩
  have HNN := Lib.hid hnn
  rw [← hnn] at hn ⊢
  have INV := Lib.hid (inv_new (n := 400) (b := 0) (half := 200) (boot := 1) (by omega) (by omega) (by omega) (by omega) (by omega) (by omega))
  clear hA hnn
  go_enter Try.func6, Try.ntmps6
  go_wp2_with fail
  refine (awake_true _).mono ?_
  rintro e w1 ⟨rfl, hb1⟩
  go_wp2_with fail
  refine (dnew_yes 400 _ (by omega) (by omega)).mono ?_
  rintro e w2 ⟨D, rfl, hd2, hb2⟩
  have HD2 := Lib.hid (diskAt_mono hd2 hb1.size)
  have HB2 := Lib.hid (below_step hb1 hb2)
  clear hd2 hb2 hb1
  go_wp2_with fail
  refine (lopen_is HD2.out INV.out).mono ?_
  rintro e w3 ⟨B, v, rfl, hp3, hb3⟩
  have HB3 := Lib.hid (below_step HB2.out hb3)
  have HL3 := Lib.hid (LogM.mono hp3 HB2.out.size (diskAt_later HD2.out hb3) INV.out)
  clear hp3 hb3 HD2 HB2 INV
  go_wp2_with fail
  refine (lappend_at HL3.out HB3.out.size rfl (by omega) ⟨#[]⟩ ⟨#[98, 97, 115, 101]⟩ (by decide) (by decide) _ 0 gr_a1).mono ?_
  rintro e w4 ⟨rfl, ⟨l4, st4, v4, hl4, hz4, hv4⟩, ho4, hb4⟩
  have HG := Lib.hid (show GrS w L D B 0 l4 1 st4 v4 (.slice none 0 0) w4 from ⟨hl4, hz4, by omega, by omega, World.ownsRow_nil _ _ _ _, fun g hg => by simp [Value.ownBlock] at hg, HB3.out.trans hb4⟩)
  clear hl4 hz4 hv4 ho4 hb4 HL3 HB3
  go_wp2_with fail
  obtain ⟨i0, hi0, q0, q1, q2⟩ := info_parts info_str4
  go_loopw [7, 39] (fun a i wr => ∃ (k : Nat) (l at_ : Int) (st : Dk) (v u : Value), k ≤ n ∧ i = .int .i64 k ∧ u = a ∧ GrS w L D B k l at_ st v u wr) (fun _ i _ => n - (intOf i).toNat)
  case atStart => exact ⟨0, l4, 1, st4, v4, _, Nat.zero_le _, rfl, rfl, HG.out⟩
  case round =>
    obtain ⟨k, l, at_, st, v, u, hk, rfl, hu, hG⟩ := hrel
    subst hu
    clear HG
    have HG := Lib.hid hG
    clear hG
    by_cases hlt : k < n
    · obtain ⟨ad, e, hcell⟩ := HA.out (by have := HNN.out; omega)
      subst e
      obtain ⟨t, ht⟩ : ∃ t, L[k]? = some t := ⟨_, List.getElem?_eq_getElem (by have := HNN.out; omega)⟩
      have x0 := cell_later HG.out.low (hcell k t ht)
      have HT := Lib.hid ht
      clear hcell ht
      by_cases hlong : 100 < t.size
      · have HB := Lib.hid HG.out.low
        clear HG
        go_wp2_with fail
        go_ret
        exact ⟨rfl, HB.out⟩
      · obtain ⟨m, hm⟩ : ∃ m, m = cntN t.size := ⟨_, rfl⟩
        have hm3 : m ≤ 3 := by rw [hm]; unfold cntN; split <;> omega
        have hat1 := HG.out.at1
        have hat2 := HG.out.at2
        have hat3 : at_ ≤ 181 := by omega
        have SEC := Lib.hid (fun W : World => sectors_is t (by omega) W)
        have AP := Lib.hid (lappend_at HG.out.log HG.out.low.size HG.out.arm (by omega) t ⟨#[]⟩ (by omega) (by decide) _ 0 (gr_a2 (by rw [← hm]; omega)))
        rw [← hm] at SEC AP
        clear hm
        go_wp2_with fail
        refine (lroom_is HG.out.log.plog (r := 200 - at_) room1).mono ?_
        rintro e w5 ⟨rfl, hw5⟩
        subst hw5
        go_wp2_with fail
        refine (AP.out).mono ?_
        rintro e w5 ⟨rfl, ⟨l5, st5, v5, hl5, hz5, hv5⟩, ho5, hb5⟩
        have HL5 := Lib.hid hl5
        have HZ5 := Lib.hid hz5
        have HR5 := Lib.hid (own_only HG.out.row ho5 (own_apart HG.out.row HG.out.log.plog HG.out.ne))
        have HN5 := Lib.hid (show ∀ g, u.ownBlock = some g → v5.ownBlock ≠ some g from fun g hg hq => by
          rcases hv5 g hq with h | h
          · exact HG.out.ne g hg h
          · have := own_lt HG.out.row hg
            omega)
        have HB5 := Lib.hid (HG.out.low.trans hb5)
        clear hl5 hz5 hv5 ho5 hb5 HG AP
        go_wp2_with fail
        refine (lroom_is HL5.out.plog (r := 200 - at_ - m) (room1.trans (by show (200 : Int) - _ = _; omega))).mono ?_
        rintro e w6 ⟨rfl, hw6⟩
        subst hw6
        go_wp2_with fail
        refine (SEC.out _).mono ?_
        rintro e w6 ⟨rfl, hw6⟩
        subst hw6
        have HA6 := Lib.hid (show Below w5.heap.size w5 (w5.alloc (.cells #[.string t] 9)) from (Below.refl _ _).alloc (Nat.le_refl _) _)
        have HR6 := Lib.hid (own_agree HR5.out (fun q _ hq => HA6.out.block q hq))
        have HL6 := Lib.hid (HL5.out.later HA6.out)
        have HB6 := Lib.hid (below_step HB5.out HA6.out)
        have HNW := Lib.hid (show ∀ j u, [Value.string t][j]? = some u → (w5.alloc (.cells #[.string t] 9)).cell? ((⟨w5.heap.size, 0, none⟩ : Addr).add j) = some u from one_cell_new w5 (.string t) 9)
        have HLE := Lib.hid HB6.out.size
        clear HA6 HR5 HL5 HB5 SEC
        go_wp2_with (at_builtin; refine wpList_append_own_at _ rfl (.tmp 61) (.tmp 63) 35 rfl w.heap.size 9 i0 _ 1 16 Try.underlying35 hi0 q0 q1 q2 rfl (by omega) u k (txV (L.take k)) rfl HR6.out ⟨w5.heap.size, 0, none⟩ 1 1 [.string t] rfl rfl HNW.out (by simp [Value.oneCell']) (by unfold maxLen; omega) (by omega) HLE.out ?_; intro u2 w7 hown7 hg7 _ hat7; have HR7 := Lib.hid hown7; have HG7 := Lib.hid hg7; have HAT := Lib.hid hat7; clear hown7 hg7 hat7)
        have HS : GrS w L D B (k + 1) l5 (at_ + m) st5 v5 u2 w7 := by
          have et : L.take (k + 1) = L.take k ++ [t] := take_more HT.out
          refine ⟨?_, HZ5.out, by omega, by omega, ?_, ?_, ?_⟩
          · rw [et]
            exact HL6.out.grown HR6.out HG7.out HN5.out
          · rw [et, show txV (L.take k ++ [t]) = txV (L.take k) ++ [.string t] from List.map_append]
            exact HR7.out
          · intro g hg hq
            rcases HAT.out with h | h
            · exact HN5.out g (h ▸ hg) hq
            · rw [h] at hg
              injection hg with hg
              have := HL6.out.lts.2 g hq
              omega
          · exact HB6.out.trans (Below.grown (Below.refl _ _) HG7.out HLE.out (fun b e => (own_type HR6.out e).1))
        have HS' := Lib.hid HS
        clear HS HR7 HG7 HAT HR6 HL6 HB6 HNW HLE HN5 HZ5
        go_wp2_with fail
        go_roundw
        case rel => exact ⟨k + 1, l5, at_ + m, st5, v5, u2, by omega, by go_num, rfl, HS'.out⟩
        case measure => simp [intOf]; omega
    · obtain rfl : k = n := by omega
      obtain ⟨Au, cu, eu, hTu⟩ := own_texts HG.out.row (by rw [List.length_take, ← HNN.out]; omega)
      subst eu
      have HTU := Lib.hid hTu
      clear hTu hlt
      go_wp2_with fail
      refine (lopen_is HG.out.log.disk (HG.out.log.inv.again (b := 2) (by show (1 : Int) < 2; omega) (by omega))).mono ?_
      rintro e w5 ⟨B5, v5, rfl, hp5, hb5⟩
      have HM5 := Lib.hid hp5
      have HL5 := Lib.hid (HG.out.log.later hb5)
      have HB5 := Lib.hid (below_step HG.out.low hb5)
      have HT5 := Lib.hid (texts_later hb5 HTU.out)
      clear hp5 hb5 HG HTU
      go_wp2_with fail
      refine (lgen_is HL5.out.plog (g := 1) rfl).mono ?_
      rintro e w6 ⟨rfl, hw6⟩
      subst hw6
      go_wp2_with fail
      refine (lbase_is HL5.out.plog (s := ⟨#[98, 97, 115, 101]⟩) rfl).mono ?_
      rintro e w6 ⟨rfl, hw6⟩
      subst hw6
      have hln : (L.take k).length = k := by rw [List.length_take, ← HNN.out]; omega
      have HLN := Lib.hid hln
      clear hln
      go_wp2_with fail
      refine (lrecords_is HM5.out (by show (L.take k).length ≤ _; rw [HLN.out]; omega) (l := L.take k) rfl (n := k) HLN.out).mono ?_
      rintro e w6 ⟨A6, c6, rfl, ht6, hb6, _⟩
      have SM := Lib.hid (same_is (c1 := c6) (c2 := cu) ht6 (texts_later hb6 HT5.out) (by rw [HLN.out]; omega))
      rw [HLN.out, decide_eq_true rfl] at SM
      have HM6 := Lib.hid (HM5.out.later hb6)
      have HB6 := Lib.hid (below_step HB5.out hb6)
      clear ht6 hb6 HM5 HL5 HB5 HT5
      go_wp2_with fail
      refine (SM.out).mono ?_
      rintro e w7 ⟨rfl, hb7⟩
      have HM7 := Lib.hid (HM6.out.later hb7)
      have HB7 := Lib.hid (below_step HB6.out hb7)
      clear HM6 HB6 hb7 SM
      go_wp2_with fail
      refine (lbase_is HM7.out (s := ⟨#[98, 97, 115, 101]⟩) rfl).mono ?_
      rintro e w8 ⟨rfl, hw8⟩
      subst hw8
      go_wp2_with fail
      go_ret
      exact ⟨rfl, HB7.out⟩
theorem grows_walk (hA : TextsAt w A L) : Calls Try.prog 6 #[.slice A L.length cc] w fun e w' => e = .returned (.bool true) ∧ Below w.heap.size w w' := by
  by_cases h : 60 < L.length
  · exact grows_long h
  · exact grows_good hA (by omega)
end
end Go.Proofs.Ytbdgmddlghhkjaa
