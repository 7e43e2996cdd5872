/-
  What label.Parse answers: the label whose text it is; ErrForm, if it is none's. No conditions.
-/
import Derived.Test.YtfekjopchlokbaaDoorLabelA
import Derived.Test.YtfekjopchlokbaaDoorLabelB
namespace Go.Proofs.YtfekjopchlokbaaDoor
open Go.RowKit

set_option maxHeartbeats 400000 in
set_option maxRecDepth 100000 in
theorem hex_idx (c : Int) (w : World) :
    Calls Tryd.prog 26 #[.string ⟨#[48, 49, 50, 51, 52, 53, 54, 55, 56, 57, 97, 98, 99, 100, 101, 102]⟩, .int .u8 c] w fun e w' => e = .returned (.int .i64 (hexI c)) ∧ w = w' :=
  (index_byte _ c w).mono fun _ _ h => h

def ParsePost (s : ByteArray) (w : World) (e : Ending) (w' : World) : Prop :=
  ((GoodText s ∧ e = .returned (.tuple #[.agg #[.int .i64 (hexI (byteN s 0)), .int .u16 (setV s 4)], .int .i64 0])) ∨ (¬ GoodText s ∧ e = .returned (.tuple #[.agg #[.int .i64 0, .int .u16 0], .int .i64 3]))) ∧ Below w.heap.size w w'

abbrev lab0 : Obj := .cells #[.int .i64 0, .int .u16 0] 44

set_option maxHeartbeats 400000 in
set_option maxRecDepth 100000 in
theorem parse_len (s : ByteArray) (h : s.size ≠ 6) (w : World) :
    Calls Tryd.prog 22 #[.string s] w (ParsePost s w) := by
  have hn : ((s.size : Int) != 6) = true := by rw [bne_iff_ne]; omega
  go_enter Tryd.func22, Tryd.ntmps22
  go_wp2_with fail
  exact bodyPost_ret (v := .tuple #[.agg #[.int .i64 0, .int .u16 0], .int .i64 3]) (by simp [results, Tryd.results22, go_sem]) rfl ⟨.inr ⟨fun g => h g.1, rfl⟩, (Below.refl _ _).alloc (Nat.le_refl _) _⟩

set_option maxHeartbeats 1000000 in
set_option maxRecDepth 100000 in
theorem parse_six (s : ByteArray) (h : s.size = 6) (w : World) :
    Calls Tryd.prog 22 #[.string s] w (ParsePost s w) := by
  have hl : 5 < s.size := by omega
  have hn : ((s.size : Int) != 6) = false := by rw [h]; rfl
  have H := Lib.hid h
  clear h
  have hB : ∀ (i : Nat) (h : i < s.size), ((s[i]'h).toNat : Int) = byteN s i := byteN_at s
  by_cases h1 : byteN s 1 = 58
  · have h1' : (byteN s 1 != 58) = false := by rw [h1]; rfl
    have H1 := Lib.hid h1
    clear h1
    cases h2 : rightB (hexI (byteN s 0))
    · have HR := Lib.hid h2
      clear h2
      have HB : Hid (¬ GoodText s) := fun g => by have := HR.out; simp [rightB] at this; have := this g.2.2.1; have := g.2.2.2.1; omega
      go_enter Tryd.func22, Tryd.ntmps22
      go_wp2_with first | (go_at_call 26; refine (hex_idx _ _).mono ?_; rintro e w1 ⟨rfl, rfl⟩) | (go_at_call 33; refine (right_exact _ _ _ HR.out _).mono ?_; rintro e w1 ⟨rfl, rfl⟩)
      refine bodyPost_ret (v := .tuple #[.agg #[.int .i64 0, .int .u16 0], .int .i64 3]) (by simp [results, Tryd.results22, go_sem]) rfl ⟨.inr ⟨HB.out, rfl⟩, ?_⟩
      exact (((Below.refl _ _).alloc (Nat.le_refl _) _).alloc (by simp) _).alloc (by simp; omega) _
    · have HR := Lib.hid h2
      clear h2
      go_enter Tryd.func22, Tryd.ntmps22
      go_wp2_with first | (go_at_call 26; refine (hex_idx _ _).mono ?_; rintro e w1 ⟨rfl, rfl⟩) | (go_at_call 33; refine (right_exact _ _ _ HR.out _).mono ?_; rintro e w1 ⟨rfl, rfl⟩)
      go_loopw [5, 6] (fun i d wr => ∃ k : Nat, k ≤ 4 ∧ i = .int .i64 (2 + k : Nat) ∧ Hid (digitsTo s k) ∧ wr = ((w.alloc lab0).alloc (.cells #[.int .i64 (hexI (byteN s 0)), .int .u16 (setV s k)] 44)).alloc (.cells #[.int .i64 (hexI (byteN s 0)), .int .u16 0] 44)) (fun i _ _ => 6 - (intOf i).toNat)
      case atStart => exact ⟨0, by omega, rfl, fun i hi => absurd hi (by omega), rfl⟩
      case round =>
        obtain ⟨k, hk, rfl, HD, rfl⟩ := hrel
        by_cases hlt : k < 4
        · have hl2 : 2 + k < s.size := by omega
          have hi2 : ((2 + k : Nat) : Int) < (s.size : Int) := by omega
          by_cases hd : 0 ≤ hexI (byteN s (2 + k))
          · have hr := setV_range s k HD.out
            have hp : (16 : Int) ^ k ≤ 4096 := by
              have : k = 0 ∨ k = 1 ∨ k = 2 ∨ k = 3 := by omega
              rcases this with rfl | rfl | rfl | rfl <;> decide
            have HS := Lib.hid (set_next (setV s k) (hexI (byteN s (2 + k))) hr.1 (by omega) hd (hexI_range _).2)
            have HN : Hid (digitsTo s (k + 1)) := fun i hi => if e : i = k then by rw [e]; exact hd else HD.out i (by omega)
            clear hr hp
            have HV : Hid (setV s (k + 1) = setV s k * 16 + hexI (byteN s (2 + k))) := rfl
            generalize setV s k = x at *
            go_wp2_with (go_at_call 26; refine (hex_idx _ _).mono ?_; rintro e w1 ⟨rfl, rfl⟩)
            go_roundw
            case rel => exact ⟨k + 1, by omega, by go_num, HN, by rw [HV.out, HS.out]⟩
            case measure => simp [intOf]; omega
          · have HB : Hid (¬ GoodText s) := fun g => hd (g.2.2.2.2 k hlt)
            go_wp2_with (go_at_call 26; refine (hex_idx _ _).mono ?_; rintro e w1 ⟨rfl, rfl⟩)
            refine bodyPost_ret (v := .tuple #[.agg #[.int .i64 0, .int .u16 0], .int .i64 3]) (by simp [results, Tryd.results22, go_sem]) rfl ⟨.inr ⟨HB.out, rfl⟩, ?_⟩
            exact (((Below.refl _ _).alloc (Nat.le_refl _) _).alloc (by simp) _).alloc (by simp; omega) _
        · obtain rfl : k = 4 := by omega
          have HG : Hid (GoodText s) := by
            have := HR.out
            simp [rightB] at this
            exact ⟨H.out, H1.out, this.1, this.2, HD.out⟩
          go_wp2_with fail
          refine bodyPost_ret (v := .tuple #[.agg #[.int .i64 (hexI (byteN s 0)), .int .u16 (setV s 4)], .int .i64 0]) (by simp [results, Tryd.results22, go_sem]) rfl ⟨.inl ⟨HG.out, rfl⟩, ?_⟩
          exact (((Below.refl _ _).alloc (Nat.le_refl _) _).alloc (by simp) _).alloc (by simp; omega) _
  · have h1' : (byteN s 1 != 58) = true := by rw [bne_iff_ne]; exact h1
    have H1 := Lib.hid h1
    clear h1
    go_enter Tryd.func22, Tryd.ntmps22
    go_wp2_with fail
    exact bodyPost_ret (v := .tuple #[.agg #[.int .i64 0, .int .u16 0], .int .i64 3]) (by simp [results, Tryd.results22, go_sem]) rfl ⟨.inr ⟨fun g => H1.out g.2.1, rfl⟩, (Below.refl _ _).alloc (Nat.le_refl _) _⟩

theorem parse_any (s : ByteArray) (w : World) : Calls Tryd.prog 22 #[.string s] w (ParsePost s w) :=
  if h : s.size = 6 then parse_six s h w else parse_len s h w
theorem parse_good (s : ByteArray) (l t : Int) (g : GoodText s) (hl : hexI (byteN s 0) = l) (ht : setV s 4 = t) (w : World) :
    Calls Tryd.prog 22 #[.string s] w fun e w' => e = .returned (.tuple #[.agg #[.int .i64 l, .int .u16 t], .int .i64 0]) ∧ Below w.heap.size w w' :=
  (parse_any s w).mono fun e w' h => ⟨by
    rcases h.1 with ⟨_, h⟩ | ⟨n, _⟩
    · rw [h, hl, ht]
    · exact absurd g n, h.2⟩
theorem parse_bad (s : ByteArray) (g : ¬ GoodText s) (w : World) :
    Calls Tryd.prog 22 #[.string s] w fun e w' => e = .returned (.tuple #[.agg #[.int .i64 0, .int .u16 0], .int .i64 3]) ∧ Below w.heap.size w w' :=
  (parse_any s w).mono fun e w' h => ⟨by
    rcases h.1 with ⟨n, _⟩ | ⟨_, h⟩
    · exact absurd n g
    · exact h, h.2⟩

end Go.Proofs.YtfekjopchlokbaaDoor
