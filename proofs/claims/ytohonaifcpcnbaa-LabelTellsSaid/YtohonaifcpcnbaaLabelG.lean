/-
  What the document's own Parse answers (package lockageref01): the label whose text it is, and true; false, if it is none's. No conditions.
-/
import Derived.Test.YtohonaifcpcnbaaLabelC
import Derived.Test.YtohonaifcpcnbaaLabelE
import Derived.Test.YtohonaifcpcnbaaLabelF
namespace Go.Proofs.Ytohonaifcpcnbaa
open Go.RowKit

def RefParsePost (s : ByteArray) (w : World) (e : Ending) (w' : World) : Prop :=
  ((GoodText s ∧ e = .returned (.tuple #[.agg #[.int .i64 (hexI (byteN s 0)), .int .u16 (setV s 4)], .bool true])) ∨ (¬ GoodText s ∧ e = .returned (.tuple #[.agg #[.int .i64 0, .int .u16 0], .bool false]))) ∧ Below w.heap.size w w'

theorem hex_at_nat (j : Nat) : ∀ h : j < (⟨#[48, 49, 50, 51, 52, 53, 54, 55, 56, 57, 97, 98, 99, 100, 101, 102]⟩ : ByteArray).size, (((⟨#[48, 49, 50, 51, 52, 53, 54, 55, 56, 57, 97, 98, 99, 100, 101, 102]⟩ : ByteArray)[j]'h).toNat : Int) = hexC j := fun h => hex_at j h
theorem innV_yes {x c : Int} {e j : Nat} (h : hexI c = j) : innV x c e (j + 1) = IntKind.u16.wrap (innV x c e j + IntKind.u16.wrap ((j : Int) * 2 ^ e)) := by simp [innV, h]
theorem innV_no {x c : Int} {e j : Nat} (h : ¬ hexI c = j) : innV x c e (j + 1) = innV x c e j := by simp [innV, h]

theorem bytes_ext {a b : ByteArray} (h : a.toList = b.toList) : a = b := by
  rw [ByteArray.toList_eq, ByteArray.toList_eq] at h
  exact ByteArray.ext (Array.ext' h)
theorem two_set {w : World} {b : Nat} {x y u v : Value} (h0 : w.cell? ⟨b, 0, none⟩ = some x) (h1 : w.cell? ⟨b, 1, none⟩ = some y) :
    ((w.setCell ⟨b, 0, none⟩ u).setCell ⟨b, 1, none⟩ v).cell? ⟨b, 0, none⟩ = some u ∧ ((w.setCell ⟨b, 0, none⟩ u).setCell ⟨b, 1, none⟩ v).cell? ⟨b, 1, none⟩ = some v := by
  have e0 : (w.setCell ⟨b, 0, none⟩ u).cell? ⟨b, 0, none⟩ = some u := World.cell?_setCell_same' w _ _ (by rw [h0]; rfl)
  have e1 : (w.setCell ⟨b, 0, none⟩ u).cell? ⟨b, 1, none⟩ = some y := by rw [← h1]; apply World.cell?_setCell_other; simp
  refine ⟨?_, World.cell?_setCell_same' _ _ _ (by rw [e1]; rfl)⟩
  rw [← e0]
  apply World.cell?_setCell_other
  simp

abbrev refW (w : World) (l a : Int) (n : Nat) : World := ((w.alloc lab0).alloc (.cells #[.int .i64 l, .int .u16 a] 24)).drewN n

set_option maxHeartbeats 400000 in
theorem refparse_len (s : ByteArray) (h : s.size ≠ 6) (w : World) :
    Calls Try.prog 24 #[.string s] w (RefParsePost s w) := by
  have hn : ((s.size : Int) != 6) = true := by rw [bne_iff_ne]; omega
  go_enter Try.func24, Try.ntmps24
  go_wp2_with fail
  exact bodyPost_ret (v := .tuple #[.agg #[.int .i64 0, .int .u16 0], .bool false]) (by simp [results, Try.results24, go_sem]) rfl ⟨.inr ⟨fun g => h g.1, rfl⟩, (Below.refl _ _).alloc (Nat.le_refl _) _⟩

set_option maxHeartbeats 400000 in
theorem refparse_level (s : ByteArray) (h : s.size = 6) (hb : byteN s 0 < 48 ∨ 55 < byteN s 0) (w : World) :
    Calls Try.prog 24 #[.string s] w (RefParsePost s w) := by
  have hl : 5 < s.size := by omega
  have hn : ((s.size : Int) != 6) = false := by rw [h]; rfl
  clear h
  have HN := Lib.hid (level_digit_not (byteN s 0) (byteN_range s 0).1 (byteN_range s 0).2 hb)
  have hB : ∀ (i : Nat) (h : i < s.size), ((s[i]'h).toNat : Int) = byteN s i := byteN_at s
  rcases hb with hb | hb
  · have hd : decide (byteN s 0 < 48) = true := by simpa using hb
    go_enter Try.func24, Try.ntmps24
    go_wp2_with fail
    exact bodyPost_ret (v := .tuple #[.agg #[.int .i64 0, .int .u16 0], .bool false]) (by simp [results, Try.results24, go_sem]) rfl ⟨.inr ⟨fun g => HN.out ⟨g.2.2.1, g.2.2.2.1⟩, rfl⟩, (Below.refl _ _).alloc (Nat.le_refl _) _⟩
  · have hd : decide (byteN s 0 < 48) = false := by simp; omega
    have hd2 : decide (55 < byteN s 0) = true := by simpa using hb
    go_enter Try.func24, Try.ntmps24
    go_wp2_with fail
    exact bodyPost_ret (v := .tuple #[.agg #[.int .i64 0, .int .u16 0], .bool false]) (by simp [results, Try.results24, go_sem]) rfl ⟨.inr ⟨fun g => HN.out ⟨g.2.2.1, g.2.2.2.1⟩, rfl⟩, (Below.refl _ _).alloc (Nat.le_refl _) _⟩

set_option maxHeartbeats 1000000 in
set_option maxRecDepth 100000 in
theorem refparse_six (s : ByteArray) (h : s.size = 6) (hb0 : 48 ≤ byteN s 0) (hb1 : byteN s 0 ≤ 55) (w : World) :
    Calls Try.prog 24 #[.string s] w (RefParsePost s w) := by
  have hl : 5 < s.size := by omega
  have hn : ((s.size : Int) != 6) = false := by rw [h]; rfl
  have H := Lib.hid h
  clear h
  have HL := Lib.hid (level_digit (byteN s 0) hb0 hb1)
  have hB : ∀ (i : Nat) (h : i < s.size), ((s[i]'h).toNat : Int) = byteN s i := byteN_at s
  have hd : decide (byteN s 0 < 48) = false := by simp; omega
  have hd2 : decide (55 < byteN s 0) = false := by simp; omega
  go_enter Try.func24, Try.ntmps24
  go_wp2_with fail
  go_loopw [6, 7] (fun i d wr => ∃ k n : Nat, k ≤ 4 ∧ i = .int .i64 (2 + k : Nat) ∧ wr = refW w (byteN s 0 - 48) (refV s k) n) (fun i _ _ => 6 - (intOf i).toNat)
  case atStart => exact ⟨0, 0, by omega, rfl, rfl⟩
  case round =>
    obtain ⟨k, n, hk, rfl, rfl⟩ := hrel
    by_cases hlt : k < 4
    · have hl2 : 2 + k < s.size := by omega
      have hi2 : ((2 + k : Nat) : Int) < (s.size : Int) := by omega
      have hc0 := (byteN_range s (2 + k)).1
      have hc1 := (byteN_range s (2 + k)).2
      have HV : Hid (refV s (k + 1) = innV (refV s k) (byteN s (2 + k)) (4 * (3 - k)) 16) := rfl
      generalize refV s k = x at *
      go_wp2_with fail
      go_loopw [7] (fun d wr => ∃ j n : Nat, j ≤ 16 ∧ d = .int .i64 j ∧ wr = refW w (byteN s 0 - 48) (innV x (byteN s (2 + k)) (4 * (3 - k)) j) n) (fun d _ => 16 - (intOf d).toNat)
      case atStart => exact ⟨0, n, by omega, rfl, rfl⟩
      case round =>
        obtain ⟨j, n, hj, rfl, rfl⟩ := hrel
        by_cases hjt : j < 16
        · have hX := hex_at_nat j
          have hs := hex_same (byteN s (2 + k)) j hc0 hc1 (by omega) (by omega)
          by_cases hh : hexI (byteN s (2 + k)) = j
          · have hs' : (hexC (j : Int) == byteN s (2 + k)) = true := by rw [hs]; simpa using hh
            clear hs
            have HI := Lib.hid (innV_yes (x := x) (e := (4 * (3 - k))) hh)
            have HH := Lib.hid hh
            clear hh
            generalize innV x (byteN s (2 + k)) (4 * (3 - k)) j = a at *
            go_wp2_with fail
            go_region
            go_wp2_with fail
            go_region
            go_wp2_with fail
            go_roundw
            case rel => exact ⟨j + 1, n + 1 + 1, by omega, by go_num, by rw [HI.out, show 5 - (2 + k) = 3 - k from by omega]⟩
            case measure => simp [intOf]; omega
          · have hs' : (hexC (j : Int) == byteN s (2 + k)) = false := by rw [hs]; simpa using hh
            clear hs
            have HI := Lib.hid (innV_no (x := x) (e := (4 * (3 - k))) hh)
            clear hh
            generalize innV x (byteN s (2 + k)) (4 * (3 - k)) j = a at *
            go_wp2_with fail
            go_region
            go_wp2_with fail
            go_roundw
            case rel => exact ⟨j + 1, n + 1, by omega, by go_num, by rw [HI.out]⟩
            case measure => simp [intOf]; omega
        · obtain rfl : j = 16 := by omega
          go_wp2_with fail
          go_roundw
          case rel => exact ⟨k + 1, n, by omega, by go_num, by rw [HV.out]⟩
          case measure => simp [intOf]; omega
    · obtain rfl : k = 4 := by omega
      have hv0 := (refV_range s 4).1
      have hv1 := (refV_range s 4).2
      by_cases hg : strOfNums (textN (byteN s 0 - 48) (refV s 4)) = s
      · have HG : Hid (GoodText s ∧ hexI (byteN s 0) = byteN s 0 - 48 ∧ setV s 4 = refV s 4) := text_good s (by omega) (by omega) ⟨hv0, hv1⟩ hg
        have HS := Lib.hid hg
        clear hg
        go_wp2_with fail
        refine (reftext _ _ (by omega) (by omega) hv0 hv1 _).mono ?_
        rintro e w1 ⟨rfl, hb⟩
        obtain ⟨hc, hf⟩ := bcell hb
        have hz : w.heap.size + 2 ≤ w1.heap.size := (by have := hb.size; simpa using this)
        have r0 : w1.cell? ⟨w.heap.size, 0, none⟩ = some (.int .i64 0) := by rw [hc _ _ (by simp; omega)]; simp [go_sem]
        have r1 : w1.cell? ⟨w.heap.size, 1, none⟩ = some (.int .u16 0) := by rw [hc _ _ (by simp; omega)]; simp [go_sem]
        rw [HS.out]
        go_wp2_with fail
        refine bodyPost_ret (v := .tuple #[.agg #[.int .i64 (hexI (byteN s 0)), .int .u16 (setV s 4)], .bool true]) (by rw [HG.out.2.1, HG.out.2.2]; have t := two_set (u := .int .i64 (byteN s 0 - 48)) (v := .int .u16 (refV s 4)) r0 r1; simp [results, Try.results24, go_sem, t.1, t.2]) rfl ⟨.inl ⟨HG.out.1, rfl⟩, ?_⟩
        exact (((below_drewN (((Below.refl _ _).alloc (Nat.le_refl _) _).alloc (by simp) _) n).trans (hb.mono (by simp; omega))).setCell (by simp) _).setCell (by simp) _
      · have HG : Hid (¬ GoodText s) := fun g => hg (by have := good_text s g; rw [HL.out, ← refV_good s g.2.2.2.2] at this; exact this)
        have hg1 : ((strOfNums (textN (byteN s 0 - 48) (refV s 4))).toList == s.toList) = false := by rw [beq_eq_false_iff_ne]; exact fun e => hg (bytes_ext e)
        clear hg
        go_wp2_with fail
        refine (reftext _ _ (by omega) (by omega) hv0 hv1 _).mono ?_
        rintro e w1 ⟨rfl, hb⟩
        obtain ⟨hc, hf⟩ := bcell hb
        have hz : w.heap.size + 2 ≤ w1.heap.size := (by have := hb.size; simpa using this)
        have r0 : w1.cell? ⟨w.heap.size, 0, none⟩ = some (.int .i64 0) := by rw [hc _ _ (by simp; omega)]; simp [go_sem]
        have r1 : w1.cell? ⟨w.heap.size, 1, none⟩ = some (.int .u16 0) := by rw [hc _ _ (by simp; omega)]; simp [go_sem]
        go_wp2_with fail
        refine bodyPost_ret (v := .tuple #[.agg #[.int .i64 0, .int .u16 0], .bool false]) (by have t := two_set (u := .int .i64 0) (v := .int .u16 0) r0 r1; simp [results, Try.results24, go_sem, t.1, t.2]) rfl ⟨.inr ⟨HG.out, rfl⟩, ?_⟩
        exact (((below_drewN (((Below.refl _ _).alloc (Nat.le_refl _) _).alloc (by simp) _) n).trans (hb.mono (by simp; omega))).setCell (by simp) _).setCell (by simp) _

theorem refparse_any (s : ByteArray) (w : World) : Calls Try.prog 24 #[.string s] w (RefParsePost s w) := by
  by_cases h : s.size = 6
  · by_cases hb : byteN s 0 < 48 ∨ 55 < byteN s 0
    · exact refparse_level s h hb w
    · exact refparse_six s h (by omega) (by omega) w
  · exact refparse_len s h w
theorem refparse_good (s : ByteArray) (g : GoodText s) (w : World) :
    Calls Try.prog 24 #[.string s] w fun e w' => e = .returned (.tuple #[.agg #[.int .i64 (hexI (byteN s 0)), .int .u16 (setV s 4)], .bool true]) ∧ Below w.heap.size w w' :=
  (refparse_any s w).mono fun e w' h => ⟨by
    rcases h.1 with ⟨_, h⟩ | ⟨n, _⟩
    · exact h
    · exact absurd g n, h.2⟩
theorem refparse_bad (s : ByteArray) (g : ¬ GoodText s) (w : World) :
    Calls Try.prog 24 #[.string s] w fun e w' => e = .returned (.tuple #[.agg #[.int .i64 0, .int .u16 0], .bool false]) ∧ Below w.heap.size w w' :=
  (refparse_any s w).mono fun e w' h => ⟨by
    rcases h.1 with ⟨n, _⟩ | ⟨_, h⟩
    · exact absurd n g
    · exact h, h.2⟩

end Go.Proofs.Ytohonaifcpcnbaa
