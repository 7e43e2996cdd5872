/-
  The program's Writer: Text, Label. Conditions: how the Writer and the lists lie, what the package-level variables hold, lengths.
-/
import Derived.Test.YtnajbcbdncmbbaaDoorCodZ
namespace Go.Proofs.YtnajbcbdncmbbaaDoor
open Go.RowKit
section
variable {w : World} {O : List Nat} {P : Nat} {t : ByteArray}
theorem ints_made (w : World) (l : List Int) : IntsAt (w.alloc (.cells (l.map (Value.int .i64)).toArray 3)) (some ⟨w.heap.size, 0, none⟩) l := fun _ => ⟨_, rfl, fun i n h => by
  have hadd : (⟨w.heap.size, 0, none⟩ : Addr).add i = ⟨w.heap.size, i, none⟩ := by unfold Addr.add; split <;> simp_all
  rw [hadd]
  have := cellH (made_at w (.cells (l.map (Value.int .i64)).toArray 3)) i
  rw [this]
  simp [h]⟩
theorem off_new (h : WrV w O P t) : Off (some ⟨w.heap.size, 0, none⟩) O := fun ad e hm => by
  obtain rfl := Option.some.inj e
  have := h.wr.low.2 _ hm
  exact absurd this (Nat.lt_irrefl _)
set_option maxHeartbeats 4000000 in
set_option maxRecDepth 100000 in
theorem wtext_is (h : WrV w O P t) (A : Option Addr) (L : List ByteArray) (c : Nat) (hA : TxtsAt w A L) (hAO : Off A O) (hL : L.length ≤ 1000000000) (hb : (txtsX t L).size ≤ 140737488355328) :
    Calls Tryd.prog 12 #[.pointer (some ⟨P, 0, none⟩), .slice A L.length c] w (WroteV w O P (txtsX t L)) := by
  have HA := Lib.hid hA
  have HAO := Lib.hid hAO
  have HB := Lib.hid hb
  have HW := Lib.hid h
  clear hA hAO hb h
  go_enter Tryd.func12, Tryd.ntmps12
  go_wp2_with fail
  go_loopw [10] (fun i wr => ∃ (k : Nat) (O1 : List Nat) (T : ByteArray), k ≤ L.length ∧ i = .int .i64 k ∧ Hid (T = txtsX t (L.take k)) ∧ WrV wr O1 P T ∧ New O O1 w ∧ OnlyO O w wr) (fun i _ => L.length - (intOf i).toNat)
  case atStart => exact ⟨0, O, t, Nat.zero_le _, rfl, rfl, HW.out, New.refl, OnlyO.of_below (Below.refl _ _)⟩
  case round =>
    obtain ⟨k, O1, T, hk, rfl, hT, hW, hN, hO⟩ := hrel
    have HW1 := Lib.hid hW
    have HN := Lib.hid hN
    have HO := Lib.hid hO
    clear hW hN hO HW
    by_cases hlt : k < L.length
    · obtain ⟨s, hs⟩ : ∃ s, L[k]? = some s := ⟨_, List.getElem?_eq_getElem hlt⟩
      obtain ⟨ad, e, hcell⟩ := HA.out (by omega)
      subst e
      have x0 := cell_onlyO HO.out (by
        have := HAO.out ad rfl
        rw [add_block]; exact this) (hcell k s hs)
      have HS := Lib.hid (txtsX_take t L k s hs)
      have HP := Lib.hid (txtsX_part t L (k + 1))
      have hszs : s.size ≤ 140737488355328 := by
        have h1 := HP.out
        have h2 := HB.out
        rw [HS.out, size_cat, size_cat] at h1
        omega
      have hX1 : (intsX T [(s.size : Int)]).size ≤ 140737488355328 := by
        have h1 := HP.out
        have h2 := HB.out
        rw [HS.out, size_cat, size_cat] at h1
        show (T ++ numX s.size).size ≤ _
        rw [size_cat, hT.out]
        omega
      have b1 := (Below.refl _ wr).alloc (Nat.le_refl _) (.cells #[.int .i64 s.size] 3)
      have HI := Lib.hid (show IntsAt (wr.alloc (.cells #[.int .i64 s.size] 3)) (some ⟨wr.heap.size, 0, none⟩) [(s.size : Int)] from ints_made wr [(s.size : Int)])
      have HOF := Lib.hid (off_new HW1.out)
      have HW2 := Lib.hid (HW1.out.below b1)
      have HO2 := Lib.hid (HO.out.trans (OnlyO.of_below (O := O1) b1) HN.out)
      have HX1 := Lib.hid hX1
      clear hcell hs b1 hX1 HW1 HO
      go_wp2_with fail
      refine (wint_is HW2.out _ [(s.size : Int)] 1 HI.out HOF.out (fun n hn => by rw [List.mem_singleton] at hn; omega) (by simp) HX1.out).mono ?_
      rintro e w2 ⟨rfl, O3, hW3, hN3, hO3⟩
      have HW3 := Lib.hid (show WrV w2 O3 P (T ++ numX s.size) from hW3)
      have HN3 := Lib.hid (HN.out.trans hN3 HO2.out.size)
      have HO3 := Lib.hid (HO2.out.trans hO3 HN.out)
      clear hW3 hN3 hO3 HW2 HO2 HI HOF x0 HN
      have hts : (T ++ numX s.size).size + s.size ≤ 140737488355328 := by
        have h1 := HP.out
        have h2 := HB.out
        rw [HS.out, size_cat, size_cat] at h1
        rw [size_cat, hT.out]
        omega
      go_wp2_with fail
      refine (put_v HW3.out s hts).mono ?_
      rintro e w4 ⟨rfl, O4, hW4, hN4, hO4⟩
      have HT2 := Lib.hid (show T ++ numX s.size ++ s = txtsX t (L.take (k + 1)) by
        rw [HS.out, hT.out]
        apply bl_inj
        simp only [bl_append, List.append_assoc])
      have HW4 := Lib.hid hW4
      have HN4 := Lib.hid (HN3.out.trans hN4 HO3.out.size)
      have HO4 := Lib.hid (HO3.out.trans hO4 HN3.out)
      clear hW4 hN4 hO4 HW3 HN3 HO3 hts hT HS HP HX1
      generalize T ++ numX s.size ++ s = T2 at *
      go_wp2_with fail
      go_roundw
      case rel => exact ⟨k + 1, O4, T2, by omega, by go_num, HT2, HW4.out, HN4.out, HO4.out⟩
      case measure => simp [intOf]; omega
    · obtain rfl : k = L.length := by omega
      have HT2 := Lib.hid (show T = txtsX t L by rw [hT.out, List.take_length])
      clear hT
      go_wp2_with fail
      go_end0
      exact ⟨rfl, O1, by rw [← HT2.out]; exact HW1.out, HN.out, HO.out⟩
set_option maxHeartbeats 4000000 in
set_option maxRecDepth 100000 in
theorem wlabel_is (h : WrV w O P t) (a b : Int) (ha0 : -9223372036854775808 ≤ a) (ha1 : a ≤ 9223372036854775807) (hb0 : 0 ≤ b) (hb1 : b ≤ 65535) (hb : (intsX t [a, b]).size ≤ 140737488355328) :
    Calls Tryd.prog 14 #[.pointer (some ⟨P, 0, none⟩), .agg #[.int .i64 a, .int .u16 b]] w (WroteV w O P (intsX t [a, b])) := by
  have l1 := (Below.refl w.heap.size w).alloc (Nat.le_refl _) (.cells #[.int .i64 a, .int .u16 b] 30)
  have l2 := (Below.refl _ (w.alloc (.cells #[.int .i64 a, .int .u16 b] 30))).alloc (Nat.le_refl _) (.cells #[.int .i64 a, .int .i64 b] 3)
  have h1 := h.below l1
  have HOF := Lib.hid (off_new h1)
  have HW2 := Lib.hid (h1.below l2)
  have HL := Lib.hid (below_step l1 l2)
  have HI := Lib.hid (ints_made (w.alloc (.cells #[.int .i64 a, .int .u16 b] 30)) [a, b])
  have e1 : (w.alloc (.cells #[.int .i64 a, .int .u16 b] 30)).heap.size = w.heap.size + 1 := by simp
  rw [e1] at HI HOF
  have HBB := Lib.hid hb
  clear h l1 l2 h1 e1 hb
  have hw : IntKind.i64.wrap b = b := IntWalk.i64_in _ (by omega)
  go_enter Tryd.func14, Tryd.ntmps14
  go_wp2_with fail
  refine (wint_is HW2.out _ [a, b] 2 HI.out HOF.out (fun n hn => by
    simp only [List.mem_cons, List.not_mem_nil, or_false] at hn
    rcases hn with rfl | rfl <;> omega) (by simp) HBB.out).mono ?_
  rintro e w2 ⟨rfl, O3, hW3, hN3, hO3⟩
  have HW3 := Lib.hid hW3
  have HN3 := Lib.hid (show New O O3 w from New.trans (New.refl (a := w)) hN3 HL.out.size)
  have HO3 := Lib.hid ((OnlyO.of_below (O := O) HL.out).trans hO3 New.refl)
  clear hW3 hN3 hO3 HW2 HI HOF HL
  go_wp2_with fail
  go_end0
  exact ⟨rfl, O3, HW3.out, HN3.out, HO3.out⟩
end
end Go.Proofs.YtnajbcbdncmbbaaDoor
