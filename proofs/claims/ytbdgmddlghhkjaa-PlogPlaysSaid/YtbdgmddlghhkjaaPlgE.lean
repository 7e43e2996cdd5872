/-
  What the program's Open (package plog) answers. No conditions but how the disk lies; where a log is opened, that nothing is in the disk's cache.
-/
import Derived.Test.YtbdgmddlghhkjaaPlgD
namespace Go.Proofs.Ytbdgmddlghhkjaa
open Go.RowKit

section
variable {w : World} {base D : Nat} {st : Dk}
set_option maxHeartbeats 400000 in
set_option maxRecDepth 100000 in
theorem popen_nil (b half boot : Int) (w : World) :
    Calls Try.prog 10 #[.pointer none, .int .i64 b, .int .i64 half, .int .u32 boot] w fun e w' => e = .returned (.tuple #[.pointer none, .int .i64 8]) ∧ w = w' := by
  go_enter Try.func10, Try.ntmps10
  go_wp2_with fail
  go_ret2
  exact ⟨rfl, rfl⟩

def openArg (st : Dk) (b half : Int) : Bool := decide (half < 1) || decide (2000 < half) || decide (b < 0) || decide ((st.kept.length : Int) - 2 * half < b)
set_option maxHeartbeats 400000 in
set_option maxRecDepth 100000 in
theorem popen_arg (hd : DiskAt w base D st) (b half boot : Int) (ha : openArg st b half = true) :
    Calls Try.prog 10 #[.pointer (some ⟨D, 0, none⟩), .int .i64 b, .int .i64 half, .int .u32 boot] w fun e w' => e = .returned (.tuple #[.pointer none, .int .i64 1]) ∧ w = w' := by
  have LEN := Lib.hid (dlen_is hd)
  have hfew := (diskAt_ok hd).few
  unfold openArg at ha
  simp only [Bool.or_eq_true, decide_eq_true_eq] at ha
  generalize st.kept.length = n at *
  clear hd
  by_cases h1 : half < 1
  · clear ha
    go_enter Try.func10, Try.ntmps10
    go_wp2_with fail
    go_ret2
    exact ⟨rfl, rfl⟩
  by_cases h2 : 2000 < half
  · clear ha
    go_enter Try.func10, Try.ntmps10
    go_wp2_with fail
    go_ret2
    exact ⟨rfl, rfl⟩
  by_cases h3 : b < 0
  · clear ha
    go_enter Try.func10, Try.ntmps10
    go_wp2_with fail
    go_ret2
    exact ⟨rfl, rfl⟩
  have h4 : (n : Int) - 2 * half < b := by omega
  have h1' : 1 ≤ half := by omega
  have h2' : half ≤ 2000 := by omega
  clear ha
  go_enter Try.func10, Try.ntmps10
  go_wp2_with fail
  refine (LEN.out).mono ?_
  rintro e w1 ⟨rfl, hw1⟩
  subst hw1
  go_wp2_with fail
  go_ret2
  exact ⟨rfl, rfl⟩
set_option maxHeartbeats 400000 in
set_option maxRecDepth 100000 in
theorem popen_down (hd : DiskAt w base D st) (b half boot : Int) (ha : openArg st b half = false) (ho : st.off = true) :
    Calls Try.prog 10 #[.pointer (some ⟨D, 0, none⟩), .int .i64 b, .int .i64 half, .int .u32 boot] w fun e w' => e = .returned (.tuple #[.pointer none, .int .i64 5]) ∧ w = w' := by
  have LEN := Lib.hid (dlen_is hd)
  have DOWN := Lib.hid (ddown_is hd)
  rw [ho] at DOWN
  have hfew := (diskAt_ok hd).few
  unfold openArg at ha
  simp only [Bool.or_eq_false_iff, decide_eq_false_iff_not] at ha
  obtain ⟨⟨⟨h1, h2⟩, h3⟩, h4⟩ := ha
  generalize st.kept.length = n at *
  have h1' : 1 ≤ half := by omega
  have h2' : half ≤ 2000 := by omega
  have h4' : b ≤ (n : Int) - 2 * half := by omega
  clear hd ho
  go_enter Try.func10, Try.ntmps10
  go_wp2_with fail
  refine (LEN.out).mono ?_
  rintro e w1 ⟨rfl, hw1⟩
  subst hw1
  go_wp2_with fail
  refine (DOWN.out).mono ?_
  rintro e w1 ⟨rfl, hw1⟩
  subst hw1
  go_wp2_with fail
  go_ret2
  exact ⟨rfl, rfl⟩

theorem own_mono {W : World} {b b' : Nat} {e : TypeId} {size n : Nat} {v : Value} {xs : List Value} (h : W.ownsRow b e size v n xs) (hb : b' ≤ b) : W.ownsRow b' e size v n xs := by
  obtain ⟨hl, h3⟩ := h
  refine ⟨hl, h3.imp id ?_⟩
  rintro ⟨q, cap, cur, e, hq, hx⟩
  exact ⟨q, cap, cur, e, Nat.le_trans hb hq, hx⟩
/-- The one of the greater gen. -/
def laterK (K1 K2 : LogV) : LogV := if K2.gen < K1.gen then K1 else K2
set_option maxHeartbeats 2000000 in
set_option maxRecDepth 100000 in
theorem popen_is (hd : DiskAt w base D st) (b half boot : Int) (ha : openArg st b half = false) (ho : st.off = false) (hc : st.cache = []) :
    Calls Try.prog 10 #[.pointer (some ⟨D, 0, none⟩), .int .i64 b, .int .i64 half, .int .u32 boot] w fun e w' => ∃ B K1 K2 v, e = .returned (.tuple #[.pointer (some ⟨B, 0, none⟩), .int .i64 0]) ∧
      FoundR (rdK st.kept) b half 1 K1 ∧ FoundR (rdK st.kept) (b + half) half 0 K2 ∧ PlgAt w' w.heap.size D B ⟨b, half, boot, 0⟩ (laterK K1 K2) v ∧ Below w.heap.size w w' := by
  have LEN := Lib.hid (dlen_is hd)
  have DOWN := Lib.hid (ddown_is hd)
  rw [ho] at DOWN
  have hfew := (diskAt_ok hd).few
  unfold openArg at ha
  simp only [Bool.or_eq_false_iff, decide_eq_false_iff_not] at ha
  obtain ⟨⟨⟨h1, h2⟩, h3⟩, h4⟩ := ha
  have h1' : 1 ≤ half := by omega
  have h2' : half ≤ 2000 := by omega
  have h3' : 0 ≤ b := by omega
  have h4' : b ≤ (st.kept.length : Int) - 2 * half := by omega
  have HZ : PlgAt (w.alloc (.cells #[.pointer (some ⟨D, 0, none⟩), .int .i64 b, .int .i64 half, .int .u32 boot, .int .u64 0, .int .i64 0, .string ⟨#[]⟩, .slice none 0 0, .int .i64 0] 69)) w.heap.size D w.heap.size ⟨b, half, boot, 0⟩ noLog (.slice none 0 0) :=
    ⟨made_at _ _, Nat.le_refl _, World.ownsRow_nil _ _ _ _⟩
  have FD := Lib.hid (fun (W : World) (hW : Below w.heap.size w W) (hp : PlgAt W w.heap.size D w.heap.size ⟨b, half, boot, 0⟩ noLog (.slice none 0 0)) (kind : Int) (hk : kind = 1 ∨ kind = 2) => found_is hp (diskAt_later hd hW) ho hc kind hk h3' h1' h2' (by show b + 2 * half ≤ _; omega) hfew)
  generalize rdK st.kept = rd at *
  generalize st.kept.length = n at *
  clear hd ho hc
  have HP := Lib.hid HZ
  have HB0 := Lib.hid ((Below.refl w.heap.size w).alloc (Nat.le_refl _) (.cells #[.pointer (some ⟨D, 0, none⟩), .int .i64 b, .int .i64 half, .int .u32 boot, .int .u64 0, .int .i64 0, .string ⟨#[]⟩, .slice none 0 0, .int .i64 0] 69))
  clear HZ
  go_enter Try.func10, Try.ntmps10
  go_wp2_with fail
  refine (LEN.out).mono ?_
  rintro e w1 ⟨rfl, hw1⟩
  subst hw1
  go_wp2_with fail
  refine (DOWN.out).mono ?_
  rintro e w1 ⟨rfl, hw1⟩
  subst hw1
  go_wp2_with fail
  generalize w.alloc (.cells #[.pointer (some ⟨D, 0, none⟩), .int .i64 b, .int .i64 half, .int .u32 boot, .int .u64 0, .int .i64 0, .string ⟨#[]⟩, .slice none 0 0, .int .i64 0] 69) = W0 at *
  refine (FD.out _ HB0.out HP.out 1 (.inl rfl)).mono ?_
  rintro e W1 ⟨A1, c1, K1, rfl, hf1, hown1, hb1⟩
  have HP1 := Lib.hid (HP.out.later hb1)
  have HB1 := Lib.hid (below_step HB0.out hb1)
  have HF1 := Lib.hid hf1
  have HS1 := Lib.hid (show w.heap.size < W0.heap.size from (Array.getElem?_eq_some_iff.1 HP.out.1).1)
  have HO1 := Lib.hid hown1
  have HS2 := Lib.hid (show W0.heap.size ≤ W1.heap.size from hb1.size)
  clear hf1 hown1 hb1 HP HB0
  go_wp2_with fail
  refine (FD.out _ HB1.out HP1.out 2 (.inr rfl)).mono ?_
  rintro e W2 ⟨A2, c2, K2, rfl, hf2, hown2, hb2⟩
  have HP2 := Lib.hid (HP1.out.later hb2)
  have HB2 := Lib.hid (below_step HB1.out hb2)
  have HF2 := Lib.hid hf2
  have HO1' := Lib.hid (own_agree HO1.out (fun q _ hq => hb2.block q hq))
  have HO2 := Lib.hid hown2
  clear hf2 hown2 hb2 HP1 HB1 HO1
  go_wp2_with fail
  refine (later_is _ _ _ _ _ _ _ _ _ _ _ _ _).mono ?_
  rintro e W3 ⟨rfl, hb3⟩
  have HP3 := Lib.hid (HP2.out.later hb3)
  have HB3 := Lib.hid (below_step HB2.out hb3)
  have HO13 := Lib.hid (own_mono (own_agree HO1'.out (fun q _ hq => hb3.block q hq)) (show w.heap.size ≤ W0.heap.size by have := HS1.out; omega))
  have HO23 := Lib.hid (own_mono (own_agree HO2.out (fun q _ hq => hb3.block q hq)) (show w.heap.size ≤ W1.heap.size by have := HS1.out; have := HS2.out; omega))
  clear hb3 HP2 HB2 HO1' HO2
  have x5 := cellH HP3.out.1 5
  have x6 := cellH HP3.out.1 6
  have x7 := cellH HP3.out.1 7
  have x8 := cellH HP3.out.1 8
  have xf := freeH HP3.out.1
  simp at x5 x6 x7 x8
  by_cases hlt : K2.gen < K1.gen
  · rw [if_pos hlt]
    have HK := Lib.hid (show laterK K1 K2 = K1 from if_pos hlt)
    generalize roomV half K2 = r2 at *
    generalize hr1 : roomV half K1 = r1 at *
    have HR1 := Lib.hid hr1
    clear hlt hr1
    go_wp2_with fail
    go_ret2
    refine ⟨w.heap.size, K1, K2, .slice A1 K1.recs.length c1, rfl, HF1.out, HF2.out, ?_, ?_⟩
    · rw [HK.out]
      refine ⟨?_, Nat.le_refl _, own_set (own_set (own_set (own_set HO13.out HP3.out.1 (by decide)) (row_set HP3.out.1) (by decide)) (row_set (row_set HP3.out.1)) (by decide)) (row_set (row_set (row_set HP3.out.1))) (by decide)⟩
      rw [row_set (row_set (row_set (row_set HP3.out.1)))]
      rw [← HR1.out]
      rfl
    · repeat (refine Below.setCell ?_ (by simp) _)
      exact HB3.out
  · rw [if_neg hlt]
    have HK := Lib.hid (show laterK K1 K2 = K2 from if_neg hlt)
    generalize roomV half K1 = r2 at *
    generalize hr1 : roomV half K2 = r1 at *
    have HR1 := Lib.hid hr1
    clear hlt hr1
    go_wp2_with fail
    go_ret2
    refine ⟨w.heap.size, K1, K2, .slice A2 K2.recs.length c2, rfl, HF1.out, HF2.out, ?_, ?_⟩
    · rw [HK.out]
      refine ⟨?_, Nat.le_refl _, own_set (own_set (own_set (own_set HO23.out HP3.out.1 (by decide)) (row_set HP3.out.1) (by decide)) (row_set (row_set HP3.out.1)) (by decide)) (row_set (row_set (row_set HP3.out.1))) (by decide)⟩
      rw [row_set (row_set (row_set (row_set HP3.out.1)))]
      rw [← HR1.out]
      rfl
    · repeat (refine Below.setCell ?_ (by simp) _)
      exact HB3.out
end
end Go.Proofs.Ytbdgmddlghhkjaa
