/-
  What the laws of layer 4 call awake answers: true.
-/
import Derived.Test.YtblmempidngcgaaSecJ
import Derived.Test.YtblmempidngcgaaSecB
namespace Go.Proofs.Ytblmempidngcgaa
open Go.RowKit

/-- What lies in memory while awake looks: the list's variable, its row. -/
structure AwW (w : World) (b g : Nat) (l0 l1 : ByteArray) (W : World) : Prop where
  vb : W.heap[b]? = some (.cells #[.slice (some ⟨g, 0, none⟩) 2 2] 41 (0, 0))
  row : W.heap[g]? = some (.cells #[.string l0, .string l1] 9 (0, 0))
  low : Below w.heap.size w W
theorem AwW.later {w W W' : World} {b g : Nat} {l0 l1 : ByteArray} (h : AwW w b g l0 l1 W) (hb : Below W.heap.size W W') : AwW w b g l0 l1 W' := ⟨later_at hb h.vb, later_at hb h.row, below_step h.low hb⟩

set_option maxHeartbeats 4000000 in
set_option maxRecDepth 100000 in
theorem awake_true (w : World) : Calls Try.prog 7 #[] w fun e w' => e = .returned (.bool true) ∧ Below w.heap.size w w' := by
  obtain ⟨d, hL, hp0, hp1⟩ := lay40
  have hq1 : (⟨7, 1, 2, 1, 2, ⟨#[55, 56, 57]⟩⟩ : Pc).Ok := (rightP_iff _).1 rfl
  have hr1 : readP (printB ⟨7, 1, 2, 1, 2, ⟨#[55, 56, 57]⟩⟩) = some ⟨7, 1, 2, 1, 2, ⟨#[55, 56, 57]⟩⟩ := read_print hq1 ⟨by decide, by decide⟩
  have hr0 : readP (printB ⟨7, 1, 2, 0, 2, d⟩) = some ⟨7, 1, 2, 0, 2, d⟩ := by
    have := piece_read (s := s40) (stamp := 7) (gen := 1) (no := 2) (i := 0) (by decide) rfl (by decide) (by decide)
    rw [hp0] at this
    exact this
  obtain ⟨l1, hl1⟩ : ∃ l1, l1 = printB ⟨7, 1, 2, 1, 2, ⟨#[55, 56, 57]⟩⟩ := ⟨_, rfl⟩
  obtain ⟨l0, hl0⟩ : ∃ l0, l0 = printB ⟨7, 1, 2, 0, 2, d⟩ := ⟨_, rfl⟩
  have LY := Lib.hid (fun w : World => lay_is s40 (by decide) 7 1 2 (by decide) (by decide) w)
  rw [hL, ← hl1, ← hl0] at LY
  rw [← hl1] at hr1
  rw [← hl0] at hr0
  have hrd0 : ∀ i : Nat, i < cntN s40.size → (fun i : Int => if i = 0 then l0 else l1) (0 + i) = printB (pieceI s40 7 1 2 i) := by
    intro i hi
    rw [s40_cnt] at hi
    rcases (show i = 0 ∨ i = 1 by omega) with rfl | rfl
    · rw [hp0, ← hl0]; rfl
    · rw [hp1, ← hl1]; rfl
  have hn1 : nextP (fun i : Int => if i = 0 then l0 else l1) 0 2 1 2 = some (s40, 2) := by
    have := next_lay (rd := fun i : Int => if i = 0 then l0 else l1) (s := s40) (stamp := 7) (gen := 1) (no := 2) (at_ := 0) (end_ := 2) rfl (by decide) (by decide) hrd0 (by rw [s40_cnt]; decide) 2 0 2 none (by rw [s40_cnt]) (by decide) (by decide) (fun q h => by cases h)
    exact this
  have hn2 : nextP (fun i : Int => if i = 0 then l0 else l1) 0 2 1 3 = none := next_other (p := ⟨7, 1, 2, 0, 2, d⟩) hr0 (by show (2 : Int) ≠ 3; decide)
  have R0 := Lib.hid (fun W : World => read_is (zeroB 64) W)
  rw [zero_none] at R0
  change Hid (∀ W : World, Calls Try.prog 13 #[.string (zeroB 64)] W fun e W' => e = .returned (.tuple #[.agg #[.int .u64 0, .int .i64 0, .int .i64 0, .int .i64 0, .int .i64 0, .string ⟨#[]⟩], .int .i64 3]) ∧ Below W.heap.size W W') at R0
  have R1 := Lib.hid (fun W : World => read_is l1 W)
  rw [hr1] at R1
  change Hid (∀ W : World, Calls Try.prog 13 #[.string l1] W fun e W' => e = .returned (.tuple #[.agg #[.int .u64 7, .int .i64 1, .int .i64 2, .int .i64 1, .int .i64 2, .string ⟨#[55, 56, 57]⟩], .int .i64 0]) ∧ Below W.heap.size W W') at R1
  have P1 := Lib.hid (fun W : World => print_is ⟨7, 1, 2, 1, 2, ⟨#[55, 56, 57]⟩⟩ ⟨by decide, by decide⟩ W)
  rw [show rightP ⟨7, 1, 2, 1, 2, ⟨#[55, 56, 57]⟩⟩ = true from rfl, if_pos rfl, if_pos rfl, ← hl1] at P1
  have P0 := Lib.hid (fun W : World => print_is ⟨0, 0, 0, 0, 0, ⟨#[]⟩⟩ ⟨by decide, by decide⟩ W)
  rw [show rightP ⟨0, 0, 0, 0, 0, ⟨#[]⟩⟩ = false from rfl, if_neg (by simp), if_neg (by simp)] at P0
  have C38 := Lib.hid (fun W : World => count_is 38 (by decide) (by decide) W)
  have C0 := Lib.hid (fun W : World => count_is 0 (by decide) (by decide) W)
  rw [show cntI 38 = 2 from rfl] at C38
  rw [show cntI 0 = 1 from rfl] at C0
  have RI := Lib.hid (fun W : World => right_is 7 1 2 1 2 ⟨#[55, 56, 57]⟩ W)
  rw [show rightP ⟨7, 1, 2, 1, 2, ⟨#[55, 56, 57]⟩⟩ = true from rfl] at RI
  have HN1 := Lib.hid hn1
  have HN2 := Lib.hid hn2
  have hmf : ∀ (fn : Fn) (first cap : Array Value) (w : World), (Instr.makeFunc fn first cap).run Try.prog w = .ok (.func fn first cap) w := fun _ _ _ _ => rfl
  clear hL hp0 hp1 hq1 hr1 hr0 hl1 hl0 hrd0 hn1 hn2
  go_enter Try.func7, Try.ntmps7
  go_wp2_with fail
  refine (LY.out _).mono ?_
  rintro e w1 ⟨hb1, hdis⟩
  rcases hdis with ⟨hf, _⟩ | ⟨_, g, hgg, rfl, hrow⟩
  · exact absurd hf (by decide)
  have HA1 := Lib.hid (show AwW w w1.heap.size g l0 l1 (w1.alloc (.cells #[.slice (some ⟨g, 0, none⟩) 2 2] 41)) from ⟨made_at _ _, later_at ((Below.refl _ _).alloc (Nat.le_refl _) _) hrow, hb1.alloc hb1.size _⟩)
  clear hb1 hrow
  rw [s40_cnt]
  go_upto_region 2 with fail
  generalize w1.alloc (.cells #[.slice (some ⟨g, 0, none⟩) 2 2] 41) = W1 at HA1 ⊢
  generalize w1.heap.size = b at HA1 ⊢
  have hz := run_zero 64 (by omega) W1
  have hcz := conv_zero_at 64 (made_at W1 (.cells (madeCells #[.int .u8 0] 64) 5))
  simp at hz
  go_wp2_with fail
  refine (R0.out _).mono ?_
  rintro e w2 ⟨rfl, hb2⟩
  have HA2 := Lib.hid ((HA1.out.later (below_step ((Below.refl _ _).alloc (Nat.le_refl _) (.cells (madeCells #[.int .u8 0] 64) 5)) hb2)).later ((Below.refl _ _).alloc (Nat.le_refl _) (.cells #[.int .u64 0, .int .i64 0, .int .i64 0, .int .i64 0, .int .i64 0, .string ⟨#[]⟩] 24)))
  have HP2 := Lib.hid (made_at w2 (.cells #[.int .u64 0, .int .i64 0, .int .i64 0, .int .i64 0, .int .i64 0, .string ⟨#[]⟩] 24))
  clear hb2 hz hcz HA1
  go_upto_region 3 with fail
  generalize w2.alloc (.cells #[.int .u64 0, .int .i64 0, .int .i64 0, .int .i64 0, .int .i64 0, .string ⟨#[]⟩] 24) = W2 at HA2 HP2 ⊢
  generalize w2.heap.size = pz at HP2 ⊢
  have v0 := cellH HA2.out.vb 0
  have g1 := cellH HA2.out.row 1
  simp at v0 g1
  go_wp2_with fail
  refine (R1.out _).mono ?_
  rintro e w3 ⟨rfl, hb3⟩
  have HA3 := Lib.hid ((HA2.out.later hb3).later ((Below.refl _ _).alloc (Nat.le_refl _) (.cells #[.int .u64 7, .int .i64 1, .int .i64 2, .int .i64 1, .int .i64 2, .string ⟨#[55, 56, 57]⟩] 24)))
  have HP3 := Lib.hid (later_at ((Below.refl _ _).alloc (Nat.le_refl _) (.cells #[.int .u64 7, .int .i64 1, .int .i64 2, .int .i64 1, .int .i64 2, .string ⟨#[55, 56, 57]⟩] 24)) (later_at hb3 HP2.out))
  have HQ3 := Lib.hid (made_at w3 (.cells #[.int .u64 7, .int .i64 1, .int .i64 2, .int .i64 1, .int .i64 2, .string ⟨#[55, 56, 57]⟩] 24))
  clear hb3 v0 g1 HA2 HP2
  go_upto_region 6 with fail
  generalize w3.alloc (.cells #[.int .u64 7, .int .i64 1, .int .i64 2, .int .i64 1, .int .i64 2, .string ⟨#[55, 56, 57]⟩] 24) = W3 at HA3 HP3 HQ3 ⊢
  generalize w3.heap.size = qz at HQ3 ⊢
  go_wp2_with fail
  refine (next_is 24 (.pointer (some ⟨b, 0, none⟩)) (fun i : Int => if i = 0 then l0 else l1) 0 2 1 2 (by decide) (by decide) W3 (enters _ _ Try.func24 (by decide) (by decide)) (fun W hW i h0 h2 => (clos1_is b g l0 l1 i h0 h2 W (by rw [cellH (HA3.out.later hW).vb]; rfl) (HA3.out.later hW).row).mono (fun e W' ⟨h, hw⟩ => ⟨h, by rw [← hw]; exact Below.refl _ _⟩))).mono ?_
  rintro e w4 ⟨rfl, hb4⟩
  rw [HN1.out]
  have HA4 := Lib.hid (HA3.out.later hb4)
  have HP4 := Lib.hid (later_at hb4 HP3.out)
  have HQ4 := Lib.hid (later_at hb4 HQ3.out)
  clear hb4 HA3 HP3 HQ3
  unfold nextV
  go_wp2_with fail
  refine (next_is 25 (.pointer (some ⟨b, 0, none⟩)) (fun i : Int => if i = 0 then l0 else l1) 0 2 1 3 (by decide) (by decide) w4 (enters _ _ Try.func25 (by decide) (by decide)) (fun W hW i h0 h2 => (clos2_is b g l0 l1 i h0 h2 W (by rw [cellH (HA4.out.later hW).vb]; rfl) (HA4.out.later hW).row).mono (fun e W' ⟨h, hw⟩ => ⟨h, by rw [← hw]; exact Below.refl _ _⟩))).mono ?_
  rintro e w5 ⟨rfl, hb5⟩
  rw [HN2.out]
  have HA5 := Lib.hid (HA4.out.later hb5)
  have HP5 := Lib.hid (later_at hb5 HP4.out)
  have HQ5 := Lib.hid (later_at hb5 HQ4.out)
  clear hb5 HA4 HP4 HQ4
  unfold nextV
  have q0 := cellH HQ5.out 0
  have q1 := cellH HQ5.out 1
  have q2 := cellH HQ5.out 2
  have q3 := cellH HQ5.out 3
  have q4 := cellH HQ5.out 4
  have q5 := cellH HQ5.out 5
  simp at q0 q1 q2 q3 q4 q5
  go_wp2_with fail
  refine (P1.out _).mono ?_
  rintro e w6 ⟨rfl, hb6⟩
  have HA6 := Lib.hid (HA5.out.later hb6)
  have HP6 := Lib.hid (later_at hb6 HP5.out)
  have HQ6 := Lib.hid (later_at hb6 HQ5.out)
  clear hb6 HA5 HP5 HQ5 q0 q1 q2 q3 q4 q5
  go_wp2_with fail
  refine (P0.out _).mono ?_
  rintro e w7 ⟨rfl, hb7⟩
  have HA7 := Lib.hid (HA6.out.later hb7)
  have HP7 := Lib.hid (later_at hb7 HP6.out)
  have HQ7 := Lib.hid (later_at hb7 HQ6.out)
  clear hb7 HA6 HP6 HQ6
  have q0 := cellH HQ7.out 0
  have q1 := cellH HQ7.out 1
  have q2 := cellH HQ7.out 2
  have q3 := cellH HQ7.out 3
  have q4 := cellH HQ7.out 4
  have q5 := cellH HQ7.out 5
  have z4 := cellH HP7.out 4
  have v0 := cellH HA7.out.vb 0
  have g1 := cellH HA7.out.row 1
  simp at q0 q1 q2 q3 q4 q5 z4 v0 g1
  have hs40 : s40.toList = [48, 49, 50, 51, 52, 53, 54, 55, 56, 57, 48, 49, 50, 51, 52, 53, 54, 55, 56, 57, 48, 49, 50, 51, 52, 53, 54, 55, 56, 57, 48, 49, 50, 51, 52, 53, 54, 55, 56, 57] := by rw [Go.ByteArray.toList_eq]; rfl
  have hl11 : (l1.toList == l1.toList) = true := by simp
  go_wp2_with fail
  refine (C38.out _).mono ?_
  rintro e W8 ⟨rfl, hw8⟩
  subst hw8
  go_wp2_with fail
  refine (C0.out _).mono ?_
  rintro e W8 ⟨rfl, hw8⟩
  subst hw8
  go_wp2_with fail
  refine (RI.out _).mono ?_
  rintro e w8 ⟨rfl, hb8⟩
  have HB8 := Lib.hid (below_step HA7.out.low hb8)
  go_wp2_with fail
  refine bodyPost_ret (v := .bool true) (by simp [results, Try.results7, go_sem]) rfl ⟨rfl, HB8.out⟩
end Go.Proofs.Ytblmempidngcgaa
