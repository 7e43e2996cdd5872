/-
  The first line's pipeline, and what becomes of its run, in plain words; how it is laid. No conditions. The laws' first line, over what the program's runs do. Conditions: what the library's variables hold. The program's Write and Read of tries are what LeaseWrites asks. Conditions: what the library's variables hold.
-/
import Derived.Test.YtfjaibaidpbppaaGreatDoorRnD
import Derived.Test.YtfjaibaidpbppaaGreatDoorLsX
import Derived.Test.YtfjaibaidpbppaaGreatDoorLsOk
import Derived.Test.YtfjaibaidpbppaaGreatDoorRd1
import Derived.Test.YtfjaibaidpbppaaGreatDoorChain
namespace Go.Proofs.YtfjaibaidpbppaaGreatDoor
open Go.RowKit

def tsA : List TkP := [⟨⟨#[97]⟩, [], 0, 5, 0, 0, 0⟩, ⟨⟨#[98]⟩, [0], 0, 5, 0, 0, 0⟩, ⟨⟨#[103]⟩, [0], 0, 5, 1, 0, 0⟩]
def pnA : ByteArray := ⟨#[112]⟩
def xA : ByteArray := ⟨#[120]⟩
theorem beh_A {i j : Nat} (h : Beh tsA i j) : j = 0 ∧ i ≠ 0 := by
  have step : ∀ {i j : Nat} {t : TkP}, tsA[i]? = some t → j ∈ t.after → j = 0 ∧ i ≠ 0 := by
    intro i j t h1 h2
    match i, h1 with
    | 0, h1 => obtain rfl := Option.some.inj h1; simp at h2
    | 1, h1 => obtain rfl := Option.some.inj h1; simp at h2; exact ⟨h2, by omega⟩
    | 2, h1 => obtain rfl := Option.some.inj h1; simp at h2; exact ⟨h2, by omega⟩
    | k + 3, h1 => simp [tsA] at h1
  induction h with
  | one h1 h2 => exact step h1 h2
  | more h1 h2 _ ih => exact ⟨ih.1, (step h1 h2).2⟩
theorem may_A : MayP pnA tsA := by
  refine ⟨⟨by decide, by decide, fun t ht => ?_, by decide⟩, fun i hi => ?_, fun t ht hn => ?_⟩
  · rcases List.mem_cons.1 ht with rfl | ht
    · exact ⟨by decide, by decide, by decide, by decide, by decide, by decide, by decide, by decide⟩
    rcases List.mem_cons.1 ht with rfl | ht
    · exact ⟨by decide, by decide, by decide, by decide, by decide, by decide, by decide, by decide⟩
    rcases List.mem_cons.1 ht with rfl | ht
    · exact ⟨by decide, by decide, by decide, by decide, by decide, by decide, by decide, by decide⟩
    cases ht
  · have := beh_A hi
    omega
  · rcases List.mem_cons.1 ht with rfl | ht
    · exact absurd hn (by decide)
    rcases List.mem_cons.1 ht with rfl | ht
    · exact absurd hn (by decide)
    rcases List.mem_cons.1 ht with rfl | ht
    · rfl
    cases ht
def zA0 : RunP := newR pnA tsA 3
def zA1 : RunP := (takeR zA0 0 3 1 1).1
def zA2 : RunP := (compR zA1 0 5 xA).1
def zA3 : RunP := (voteR zA2 2 4 true).1
def zA4 : RunP := (letR zA3 2 6).1
def zA5 : RunP := (cancelR zA4).1
def okR (z : RunP) : Bool := z.ps.length == z.ts.length && z.ps.all fun p => rightT p.tr && decide (p.out.size ≤ 32) && rightV p.yes
theorem right_of {z : RunP} (h : okR z = true) (hm : MayP z.pn z.ts) : RunRight z := by
  unfold okR at h
  simp only [Bool.and_eq_true, beq_iff_eq, List.all_eq_true, decide_eq_true_eq] at h
  exact ⟨hm, h.1, fun p hp => (h.2 p hp).1.1, fun p hp => (h.2 p hp).1.2, fun p hp => rightV_iff.1 (h.2 p hp).2⟩
theorem rA0 : RunRight zA0 := right_of (by kernel_rfl) may_A
theorem rA1 : RunRight zA1 := right_of (by kernel_rfl) may_A
theorem rA2 : RunRight zA2 := right_of (by kernel_rfl) may_A
theorem rA3 : RunRight zA3 := right_of (by kernel_rfl) may_A
theorem rA4 : RunRight zA4 := right_of (by kernel_rfl) may_A
theorem rA5 : RunRight zA5 := right_of (by kernel_rfl) may_A
theorem best0 : bestR zA0 3 = (0, 3, true) := by kernel_rfl
theorem take0 : (takeR zA0 0 3 1 1).2 = 0 := by kernel_rfl
theorem find1 : findR zA1 4 1 1 = (0, true) := by kernel_rfl
theorem comp1 : (compR zA1 0 5 xA).2 = 0 := by kernel_rfl
theorem best2 : bestR zA2 5 = (1, 5, true) := by kernel_rfl
theorem vote2 : (voteR zA2 2 4 true).2 = (true, 0) := by kernel_rfl
theorem let3 : (letR zA3 2 6).2 = (xA, 0) := by kernel_rfl
theorem inp4 : inputR zA4 1 = ⟨#[49, 44, 120]⟩ := by kernel_rfl
theorem sta4 : stateR zA4 2 = 3 := by kernel_rfl
theorem stat4 : statR zA4 = 0 := by kernel_rfl
theorem canc4 : (cancelR zA4).2 = 0 := by kernel_rfl
theorem stat5 : statR zA5 = 3 := by kernel_rfl
theorem take5 : (takeR zA5 1 9 1 2).2 = 12 := by kernel_rfl
/-- What pipe answers. -/
def PipE (w : World) (e : Ending) (w' : World) : Prop := ∃ B, e = .returned (.agg #[.string pnA, .slice (some B) tsA.length 3]) ∧ TksAt w' (some B) tsA ∧ Below w.heap.size w w'
theorem four_rows (w : World) (a b c d : Obj) : ((((w.alloc a).alloc b).alloc c).alloc d).heap[w.heap.size]? = some a ∧ ((((w.alloc a).alloc b).alloc c).alloc d).heap[w.heap.size + 1]? = some b ∧ ((((w.alloc a).alloc b).alloc c).alloc d).heap[w.heap.size + 1 + 1]? = some c ∧
    ((((w.alloc a).alloc b).alloc c).alloc d).heap[w.heap.size + 1 + 1 + 1]? = some d ∧ Below w.heap.size w ((((w.alloc a).alloc b).alloc c).alloc d) := by
  have s1 : (w.alloc a).heap.size = w.heap.size + 1 := World.size_alloc ..
  have s2 : ((w.alloc a).alloc b).heap.size = w.heap.size + 1 + 1 := by rw [World.size_alloc, s1]
  have s3 : (((w.alloc a).alloc b).alloc c).heap.size = w.heap.size + 1 + 1 + 1 := by rw [World.size_alloc, s2]
  have l1 := (Below.refl _ (w.alloc a)).alloc (Nat.le_refl _) b
  have l2 := (Below.refl _ ((w.alloc a).alloc b)).alloc (Nat.le_refl _) c
  have l3 := (Below.refl _ (((w.alloc a).alloc b).alloc c)).alloc (Nat.le_refl _) d
  have m1 := made_at w a
  have m2 := made_at (w.alloc a) b
  have m3 := made_at ((w.alloc a).alloc b) c
  have m4 := made_at (((w.alloc a).alloc b).alloc c) d
  rw [s1] at m2
  rw [s2] at m3
  rw [s3] at m4
  have b0 := (Below.refl w.heap.size w).alloc (Nat.le_refl _) a
  exact ⟨later_at l3 (later_at l2 (later_at l1 m1)), later_at l3 (later_at l2 m2), later_at l3 m3, m4, below_step (below_step (below_step b0 l1) l2) l3⟩
theorem tsA_at {w V : World} {G : Nat} (h1 : V.heap[w.heap.size + 1]? = some (.cells #[.int .i64 0] 3 (0, 0))) (h2 : V.heap[w.heap.size + 1 + 1]? = some (.cells #[.int .i64 0] 3 (0, 0))) (h3 : V.heap[G]? = some (.cells #[.string ⟨#[97]⟩, .slice none 0 0, .int .i64 0, .int .i64 5, .int .i64 0, .int .i64 0, .int .u16 0, .string ⟨#[98]⟩, .slice (some ⟨w.heap.size + 1, 0, none⟩) 1 1, .int .i64 0, .int .i64 5, .int .i64 0, .int .i64 0, .int .u16 0, .string ⟨#[103]⟩, .slice (some ⟨w.heap.size + 1 + 1, 0, none⟩) 1 1, .int .i64 0, .int .i64 5, .int .i64 1, .int .i64 0, .int .u16 0] 65 (0, 0))) : TksAt V (some ⟨G, 0, none⟩) tsA := by
  have hadd : ∀ (g n : Nat), (⟨g, 0, none⟩ : Addr).add n = ⟨g, n, none⟩ := fun g n => by unfold Addr.add; split <;> simp_all
  have nat0 : ∀ (g : Nat), V.heap[g]? = some (.cells #[.int .i64 0] 3 (0, 0)) → NatsAt V (some ⟨g, 0, none⟩) [0] := fun g hg _ => ⟨_, rfl, fun i x hx => by
    rw [hadd, cellH hg]
    match i, hx with
    | 0, hx => obtain rfl := Option.some.inj hx; rfl
    | i + 1, hx => simp at hx⟩
  refine fun _ => ⟨_, rfl, fun i t ht => ?_⟩
  match i, ht with
  | 0, ht =>
    obtain rfl := Option.some.inj ht
    refine ⟨none, 0, fun j v hj => ?_, fun h => absurd h (Nat.lt_irrefl _), by decide⟩
    rw [hadd, cellH h3]
    match j, hj with
    | 0, hj => exact hj
    | 1, hj => exact hj
    | 2, hj => exact hj
    | 3, hj => exact hj
    | 4, hj => exact hj
    | 5, hj => exact hj
    | 6, hj => exact hj
    | j + 7, hj => simp [tkC] at hj
  | 1, ht =>
    obtain rfl := Option.some.inj ht
    refine ⟨(some ⟨w.heap.size + 1, 0, none⟩), 1, fun j v hj => ?_, nat0 _ h1, by decide⟩
    rw [hadd, cellH h3]
    match j, hj with
    | 0, hj => exact hj
    | 1, hj => exact hj
    | 2, hj => exact hj
    | 3, hj => exact hj
    | 4, hj => exact hj
    | 5, hj => exact hj
    | 6, hj => exact hj
    | j + 7, hj => simp [tkC] at hj
  | 2, ht =>
    obtain rfl := Option.some.inj ht
    refine ⟨(some ⟨w.heap.size + 1 + 1, 0, none⟩), 1, fun j v hj => ?_, nat0 _ h2, by decide⟩
    rw [hadd, cellH h3]
    match j, hj with
    | 0, hj => exact hj
    | 1, hj => exact hj
    | 2, hj => exact hj
    | 3, hj => exact hj
    | 4, hj => exact hj
    | 5, hj => exact hj
    | 6, hj => exact hj
    | j + 7, hj => simp [tkC] at hj
  | i + 3, ht => simp [tsA] at ht
theorem info_pipA : (Tryz.prog.info? 24).map (·.size) = some 2 := by kernel_rfl
set_option maxHeartbeats 4000000 in
set_option maxRecDepth 100000 in
theorem rpipe_is (w : World) : Calls Tryz.prog 30 #[] w (PipE w) := by
  go_enter Tryz.func30, Tryz.ntmps30
  have HF := Lib.hid (four_rows w (.cells #[.string ⟨#[112]⟩, .slice (some ⟨w.heap.size + 1 + 1 + 1, 0, none⟩) 3 3] 24) (.cells #[.int .i64 0] 3) (.cells #[.int .i64 0] 3) (.cells #[.string ⟨#[97]⟩, .slice none 0 0, .int .i64 0, .int .i64 5, .int .i64 0, .int .i64 0, .int .u16 0, .string ⟨#[98]⟩, .slice (some ⟨w.heap.size + 1, 0, none⟩) 1 1, .int .i64 0, .int .i64 5, .int .i64 0, .int .i64 0, .int .u16 0, .string ⟨#[103]⟩, .slice (some ⟨w.heap.size + 1 + 1, 0, none⟩) 1 1, .int .i64 0, .int .i64 5, .int .i64 1, .int .i64 0, .int .u16 0] 65))
  go_wp2_with fail
  obtain ⟨h0, h1, h2, h3, hb⟩ := HF.out
  exact bodyPost_ret (results_cell_row (fn := Tryz.f30) rfl _ _ w.heap.size 24 #[.string ⟨#[112]⟩, .slice (some ⟨w.heap.size + 1 + 1 + 1, 0, none⟩) 3 3] (0, 0) _ rfl h0 Tryz.underlying24 rfl info_pipA) rfl ⟨_, rfl, tsA_at h1 h2 h3, hb⟩
end Go.Proofs.YtfjaibaidpbppaaGreatDoor

namespace Go.Proofs.YtfjaibaidpbppaaGreatDoor
open Go.RowKit

/-- The run that the first line plays. -/
structure AwS (A : RnAt) (w : World) (R : Nat) (z : RunP) (W : World) : Prop where
  at_ : ∃ M X, A W M X R z ∧ ∀ i ∈ M, w.heap.size ≤ i
  low : Below w.heap.size w W
section
variable {A : RnAt} {w W V : World} {R Q : Nat} {z z' : RunP}
theorem AwS.later (C : RunOk A) (h : AwS A w R z W) (hb : Below W.heap.size W V) : AwS A w R z V := by
  obtain ⟨M, X, h1, h2⟩ := h.at_
  exact ⟨⟨M, X, C.later h1 hb, h2⟩, below_step h.low hb⟩
theorem AwS.turn {M X : List Nat} (h2 : ∀ i ∈ M, w.heap.size ≤ i) (hl : Below w.heap.size w W) (hw : RnW A W M X R z' V) : AwS A w R z' V := by
  obtain ⟨M', X', k1, k2, k3, _⟩ := hw
  refine ⟨⟨M', X', k1, fun i hi => ?_⟩, k2.low hl h2⟩
  rcases k3 i hi with h | h
  · exact h2 i h
  · have := hl.size; omega
theorem AwS.reader (C : RunOk A) (h : AwS A w R z W) (ho : Only1 Q W V) (hQ : W.heap.size ≤ Q) : AwS A w R z V := by
  obtain ⟨M, X, h1, h2⟩ := h.at_
  refine ⟨⟨M, X, C.keep (O := [Q]) h1 ⟨ho.os, ho.tape, ho.output, ho.size, fun i hi hn => ho.block i hi (fun e => hn (by rw [e]; exact List.mem_singleton.2 rfl))⟩ (fun i hi => ?_), h2⟩, Only1.low h.low ho (Nat.le_trans h.low.size hQ)⟩
  rw [List.mem_singleton.1 hi]
  exact ⟨fun hm => by have := C.low h1 Q (.inl hm); omega, fun hm => by have := C.low h1 Q (.inr hm); omega⟩
end
set_option maxHeartbeats 8000000 in
set_option maxRecDepth 100000 in
theorem rawake_true {A : RnAt} (C : RunOk A) : AwkR := by
  intro w hV
  have HC := Lib.hid C
  have HV := Lib.hid hV
  clear C hV
  go_enter Tryz.func6, Tryz.ntmps6
  go_wp2_with fail
  refine (rpipe_is _).mono ?_
  rintro e w1 ⟨B, rfl, hT, hb1⟩
  have HNW := Lib.hid (HC.out.new (c := 3) hT may_A (now := 3) (by unfold milI; omega))
  have HB1 := Lib.hid hb1
  clear hT hb1
  go_wp2_with fail
  refine HNW.out.mono ?_
  rintro e w2 ⟨R, M, X, rfl, hr, hb2, hm⟩
  have HS0 := Lib.hid (show AwS A w R zA0 w2 from ⟨⟨M, X, hr, fun i hi => Nat.le_trans HB1.out.size (hm i hi)⟩, below_step HB1.out hb2⟩)
  clear hr hb2 hm HNW HB1
  go_wp2_with fail
  refine (HC.out.newNo _).mono ?_
  rintro e w3 ⟨rfl, hb3⟩
  have HS1 := Lib.hid (HS0.out.later HC.out hb3)
  clear hb3 HS0
  go_wp2_with fail
  obtain ⟨M, X, hr, hm⟩ := HS1.out.at_
  have hcall := HC.out.best hr rA0.inn (now := 3) (by unfold milI; omega)
  rw [best0] at hcall
  refine hcall.mono ?_
  clear hcall hr hm
  rintro e w4 ⟨rfl, hb⟩
  have HS2 := Lib.hid (HS1.out.later HC.out hb)
  clear hb HS1
  go_wp2_with fail
  obtain ⟨M, X, hr, hm⟩ := HS2.out.at_
  have hcall := HC.out.take 0 hr rA0.inn (now := 3) (wk := 1) (ls := 1) (by unfold milI; omega) (by unfold milI; omega) (by unfold milI; omega) (by omega) (by omega)
  rw [take0] at hcall
  refine hcall.mono ?_
  clear hcall hr
  rintro e w5 ⟨rfl, hw⟩
  have HS3 := Lib.hid (show AwS A w R zA1 w5 from AwS.turn hm HS2.out.low hw)
  clear hw hm HS2
  go_wp2_with fail
  obtain ⟨M, X, hr, hm⟩ := HS3.out.at_
  have hcall := HC.out.find hr rA1.inn (now := 4) (wk := 1) (ls := 1) (by unfold milI; omega) (by unfold milI; omega) (by unfold milI; omega)
  rw [find1] at hcall
  refine hcall.mono ?_
  clear hcall hr hm
  rintro e w6 ⟨rfl, hb⟩
  have HS4 := Lib.hid (HS3.out.later HC.out hb)
  clear hb HS3
  go_wp2_with fail
  obtain ⟨M, X, hr, hm⟩ := HS4.out.at_
  have hcall := HC.out.complete 0 hr rA1.inn (now := 5) (s := xA) (by unfold milI; omega) (by decide) (by omega) (by omega)
  rw [comp1] at hcall
  refine hcall.mono ?_
  clear hcall hr
  rintro e w7 ⟨rfl, hw⟩
  have HS5 := Lib.hid (show AwS A w R zA2 w7 from AwS.turn hm HS4.out.low hw)
  clear hw hm HS4
  go_wp2_with fail
  obtain ⟨M, X, hr, hm⟩ := HS5.out.at_
  have hcall := HC.out.best hr rA2.inn (now := 5) (by unfold milI; omega)
  rw [best2] at hcall
  refine hcall.mono ?_
  clear hcall hr hm
  rintro e w8 ⟨rfl, hb⟩
  have HS6 := Lib.hid (HS5.out.later HC.out hb)
  clear hb HS5
  go_wp2_with fail
  obtain ⟨M, X, hr, hm⟩ := HS6.out.at_
  have hcall := HC.out.vote 2 4 true hr rA2.inn (by omega) (by omega)
  rw [vote2] at hcall
  refine hcall.mono ?_
  clear hcall hr
  rintro e w9 ⟨rfl, hw⟩
  have HS7 := Lib.hid (show AwS A w R zA3 w9 from AwS.turn hm HS6.out.low hw)
  clear hw hm HS6
  go_wp2_with fail
  obtain ⟨M, X, hr, hm⟩ := HS7.out.at_
  have hcall := HC.out.let_ 2 hr rA3.inn (now := 6) (by unfold milI; omega) (by omega) (by omega)
  rw [let3] at hcall
  refine hcall.mono ?_
  clear hcall hr
  rintro e w10 ⟨rfl, hw⟩
  have HS8 := Lib.hid (show AwS A w R zA4 w10 from AwS.turn hm HS7.out.low hw)
  clear hw hm HS7
  go_wp2_with fail
  obtain ⟨M, X, hr, hm⟩ := HS8.out.at_
  refine (rtext_is HC.out hr rA4.inn (HV.out.later HS8.out.low)).mono ?_
  rintro e w20 ⟨rfl, hb⟩
  have HS20 := Lib.hid (HS8.out.later HC.out hb)
  clear hr hm hb HS8
  obtain ⟨t4, ht4⟩ : ∃ t4, t4 = textR zA4 := ⟨_, rfl⟩
  have HT4 := Lib.hid ht4
  rw [← ht4]
  clear ht4
  have HSZ := Lib.hid (show t4.size ≤ 1000000 from by rw [HT4.out]; decide +kernel)
  go_wp2_with fail
  refine (new_is t4 _).mono ?_
  rintro e w21 ⟨Q, rfl, hQ, hr21, hb⟩
  have HS21 := Lib.hid (HS20.out.later HC.out hb)
  have HR21 := Lib.hid hr21
  have HQ := Lib.hid (Nat.le_trans HS20.out.low.size hQ)
  have HQ2 := Lib.hid hQ
  have HB21 := Lib.hid hb
  clear hr21 hb hQ
  go_wp2_with fail
  refine (HC.out.read HR21.out (HV.out.later HS21.out.low) HSZ.out).mono ?_
  rintro e w22 ⟨r, S', b, hr3, ho3, hd, _, hyes⟩
  obtain ⟨hrz, rfl⟩ := hd.full zA4 .empty rA4 (by rw [HT4.out]; exact (ba_right _).symm)
  obtain ⟨R2, M2, X2, rfl, hx, hx2⟩ := hyes zA4 hrz
  have HS22 := Lib.hid (show AwS A w R zA4 w22 from by
    obtain ⟨M, X, h1, h2⟩ := HS20.out.at_
    refine ⟨⟨M, X, HC.out.keep (O := [Q]) (HC.out.later h1 HB21.out) ⟨ho3.os, ho3.tape, ho3.output, ho3.size, fun i hi hn => ho3.block i hi (fun e => hn (by rw [e]; exact List.mem_singleton.2 rfl))⟩ (fun i hi => ?_), h2⟩, Only1.low HS21.out.low ho3 HQ.out⟩
    rw [List.mem_singleton.1 hi]
    have h3 := HQ2.out
    exact ⟨fun hm => by have := HC.out.low h1 Q (.inl hm); omega, fun hm => by have := HC.out.low h1 Q (.inr hm); omega⟩)
  have HX22 := Lib.hid (show AwS A w R2 zA4 w22 from ⟨⟨M2, X2, hx, fun i hi => Nat.le_trans HS21.out.low.size (hx2 i (.inl hi))⟩, HS22.out.low⟩)
  clear hr3 ho3 hd hyes hrz hx hx2 HS20 HS21 HQ HQ2 HB21 HR21
  have hxA : (xA.toList == [120]) = true := by rw [ba_list (t := xA) (l := [120]) rfl]; simp
  go_upto_region 12 with fail
  dsimp only [List.append]
  go_wp2_with fail
  obtain ⟨M, X, hr, hm⟩ := HS22.out.at_
  have hcall := HC.out.input 1 hr rA4.inn (HV.out.later HS22.out.low) (by omega) (by omega)
  rw [inp4] at hcall
  refine hcall.mono ?_
  clear hcall hr hm
  rintro e w23 ⟨rfl, hb⟩
  have HS23 := Lib.hid (HS22.out.later HC.out hb)
  have HX23 := Lib.hid (HX22.out.later HC.out hb)
  clear hb HS22 HX22
  go_wp2_with fail
  obtain ⟨M, X, hr, hm⟩ := HS23.out.at_
  have hcall := HC.out.state 2 hr rA4.inn (by omega) (by omega)
  rw [sta4] at hcall
  refine hcall.mono ?_
  clear hcall hr hm
  rintro e w24 ⟨rfl, hb⟩
  have HS24 := Lib.hid (HS23.out.later HC.out hb)
  have HX24 := Lib.hid (HX23.out.later HC.out hb)
  clear hb HS23 HX23
  go_wp2_with fail
  obtain ⟨M, X, hr, hm⟩ := HS24.out.at_
  have hcall := HC.out.status hr rA4.inn
  rw [stat4] at hcall
  refine hcall.mono ?_
  clear hcall hr hm
  rintro e w25 ⟨rfl, hb⟩
  have HS25 := Lib.hid (HS24.out.later HC.out hb)
  have HX25 := Lib.hid (HX24.out.later HC.out hb)
  clear hb HS24 HX24
  go_wp2_with fail
  obtain ⟨M, X, hr, hm⟩ := HX25.out.at_
  have hcall := rtext_is HC.out hr rA4.inn (HV.out.later HX25.out.low)
  rw [← HT4.out] at hcall
  refine hcall.mono ?_
  clear hcall hr hm
  rintro e w26 ⟨rfl, hb⟩
  have HS26 := Lib.hid (HS25.out.later HC.out hb)
  have HX26 := Lib.hid (HX25.out.later HC.out hb)
  clear hb HS25 HX25
  go_wp2_with fail
  obtain ⟨M, X, hr, hm⟩ := HS26.out.at_
  have hcall := rtext_is HC.out hr rA4.inn (HV.out.later HS26.out.low)
  rw [← HT4.out] at hcall
  refine hcall.mono ?_
  clear hcall hr hm
  rintro e w27 ⟨rfl, hb⟩
  have htt : (t4.toList == t4.toList) = true := by simp
  have HS27 := Lib.hid (HS26.out.later HC.out hb)
  have HX27 := Lib.hid (HX26.out.later HC.out hb)
  clear hb HS26 HX26 HX27
  go_wp2_with fail
  obtain ⟨M, X, hr, hm⟩ := HS27.out.at_
  have hcall := HC.out.cancel hr rA4.inn
  rw [canc4] at hcall
  refine hcall.mono ?_
  clear hcall hr
  rintro e w28 ⟨rfl, hw⟩
  have HS28 := Lib.hid (show AwS A w R zA5 w28 from AwS.turn hm HS27.out.low hw)
  clear hw hm HS27
  go_wp2_with fail
  obtain ⟨M, X, hr, hm⟩ := HS28.out.at_
  have hcall := HC.out.status hr rA5.inn
  rw [stat5] at hcall
  refine hcall.mono ?_
  clear hcall hr hm
  rintro e w29 ⟨rfl, hb⟩
  have HS29 := Lib.hid (HS28.out.later HC.out hb)
  clear hb HS28
  go_wp2_with fail
  obtain ⟨M, X, hr, hm⟩ := HS29.out.at_
  have hcall := HC.out.take 1 hr rA5.inn (now := 9) (wk := 1) (ls := 2) (by unfold milI; omega) (by unfold milI; omega) (by unfold milI; omega) (by omega) (by omega)
  rw [take5] at hcall
  refine hcall.mono ?_
  clear hcall hr
  rintro e w30 ⟨rfl, hw⟩
  have HS30 := Lib.hid (show AwS A w R (takeR zA5 1 9 1 2).1 w30 from AwS.turn hm HS29.out.low hw)
  clear hw hm HS29
  go_wp2_with fail
  go_ret
  exact ⟨by first | rfl | simp, HS30.out.low⟩
end Go.Proofs.YtfjaibaidpbppaaGreatDoor

namespace Go.Proofs.YtfjaibaidpbppaaGreatDoor
open Go.RowKit

theorem sixX_grows (T : ByteArray) (t : TrP) : (intsX T (tryL t)).size = T.size + (sixX t).size := by
  unfold intsX tryL sixX
  simp only [List.foldl_cons, List.foldl_nil, ByteArray.size_append]
  omega
theorem tryL_in {t : TrP} (h : t.In) : ∀ n ∈ tryL t, -9223372036854775808 ≤ n ∧ n ≤ 9223372036854775807 := fun n hn => by
  simp only [tryL, List.mem_cons, List.not_mem_nil, or_false] at hn
  rcases hn with rfl | rfl | rfl | rfl | rfl | rfl
  · exact h.st
  · exact h.sn
  · exact h.ms
  · exact h.wk
  · exact h.ls
  · exact h.un
theorem ints_six {W : World} {g : Nat} {t : TrP} {T : TypeId} (h : W.heap[g]? = some (.cells (tryA t) T (0, 0))) : IntsAt W (some ⟨g, 0, none⟩) (tryL t) := fun _ => ⟨_, rfl, fun i n hn => by
  have hadd : (⟨g, 0, none⟩ : Addr).add i = ⟨g, i, none⟩ := by unfold Addr.add; split <;> simp_all
  rw [hadd, cellH h]
  have e : [Value.int .i64 t.st, .int .i64 t.sn, .int .i64 t.ms, .int .i64 t.wk, .int .i64 t.ls, .int .i64 t.un] = (tryL t).map (Value.int .i64) := rfl
  show ([Value.int .i64 t.st, .int .i64 t.sn, .int .i64 t.ms, .int .i64 t.wk, .int .i64 t.ls, .int .i64 t.un].toArray)[i]? = _
  rw [e]
  simp [hn]⟩
set_option maxHeartbeats 4000000 in
set_option maxRecDepth 100000 in
theorem lwrite_is {w W : World} {m P : Nat} {T : ByteArray} (t : TrP) (hw : WrB w W m P T) (hl : Below w.heap.size w W) (hm : m ≤ W.heap.size) (hin : t.In) (hT : T.size ≤ 1000000) :
    Calls Tryz.prog 72 #[.pointer (some ⟨P, 0, none⟩), tryV t] W (WroteB w W m P (intsX T (tryL t))) := by
  have hsz : (intsX T (tryL t)).size ≤ 140737488355328 := by rw [sixX_grows]; have := sixX_size hin; omega
  have b0 := (Below.refl W.heap.size W).alloc (Nat.le_refl _) (.cells (tryA t) 73)
  have m0 := made_at W (.cells (tryA t) 73)
  have HW := Lib.hid hw
  have HL := Lib.hid hl
  have HIN := Lib.hid (tryL_in hin)
  have HSZ := Lib.hid hsz
  have HM := Lib.hid hm
  clear hw hl hin hT hsz hm
  go_enter Tryz.func72, Tryz.ntmps72
  go_upto_region 1 with fail
  generalize hW0 : W.alloc _ = W0 at *
  clear hW0
  obtain ⟨⟨x0, x1, x2, x3, x4, x5⟩, _⟩ := cells6 m0
  have B0 := Lib.hid b0
  clear b0 m0
  go_wp2_with fail
  refine (lnumbers_is t).mono ?_
  rintro e w1 ⟨rfl, hb1⟩
  have B1 := Lib.hid (below_step B0.out hb1)
  clear hb1 x0 x1 x2 x3 x4 x5
  have N2 := Lib.hid (made_at w1 (.cells (tryA t) 140))
  have B2 := Lib.hid (below_step B1.out ((Below.refl _ w1).alloc (Nat.le_refl _) (.cells (tryA t) 140)))
  have hg : W.heap.size ≤ w1.heap.size := B1.out.size
  have HG := Lib.hid hg
  clear hg
  go_upto_region 2 with fail
  generalize hW2 : w1.alloc _ = W2 at *
  clear hW2
  generalize w1.heap.size = g at *
  clear B1
  go_wp2_with fail
  refine (wb_int (HW.out.below B2.out) (below_step HL.out B2.out) _ (tryL t) 6 (ints_six N2.out) (fun ad e => by obtain rfl := Option.some.inj e; have := HM.out; have := HG.out; show m ≤ g; omega) HIN.out (by simp [tryL]) HSZ.out).mono ?_
  rintro e w6 ⟨rfl, hw6, hb6, hk6⟩
  have HR := Lib.hid (show WroteB w W m P (intsX T (tryL t)) (.returned (.tuple #[])) w6 from ⟨rfl, hw6, hb6, fun j o hj ho => hk6 j o hj (later_at B2.out ho)⟩)
  clear hw6 hb6 hk6
  go_wp2_with fail
  exact bodyPost_ret (v := .tuple #[]) (by simp [results, Tryz.results72, go_sem]) rfl HR.out
/-- What is held while a try is read: the result's block, the reader. -/
structure RfS (w : World) (R gr : Nat) (S : ByteArray) (b : Bool) (W : World) : Prop where
  od : Only1 R w W
  rd : RdAt W R S b
  rs : W.heap[gr]? = some (.cells z6 73 (0, 0))
  ve : VarsAt W
  hi : w.heap.size ≤ gr
  lo : R < w.heap.size
theorem RfS.only {w W V : World} {R gr : Nat} {S S' : ByteArray} {b b' : Bool} (h : RfS w R gr S b W) (hr : RdAt V R S' b') (ho : Only1 R W V) : RfS w R gr S' b' V := by
  have := h.lo
  have := h.hi
  exact ⟨h.od.trans ho, hr, ho.at h.rs (by omega), h.ve.rd h.rd ho, h.hi, h.lo⟩
theorem RfS.later {w W V : World} {R gr : Nat} {S : ByteArray} {b : Bool} (h : RfS w R gr S b W) (hb : Below W.heap.size W V) : RfS w R gr S b V :=
  ⟨h.od.trans (.of_below hb), h.rd.below hb, later_at hb h.rs, h.ve.later hb, h.hi, h.lo⟩
section
variable {w W : World} {R gr g : Nat} {S : ByteArray} {b : Bool} {x0 x1 x2 x3 x4 x5 : Value}
theorem RfS.six (h : RfS w R gr S b W) (hV : VarsAt w) {S0 : ByteArray} {b0 : Bool} (h0 : RdAt w R S0 b0) (hg : w.heap.size ≤ g) (hn : gr ≠ g) : RfS w R gr S b ((((((W.setCell ⟨g, 0, none⟩ x0).setCell ⟨g, 1, none⟩ x1).setCell ⟨g, 2, none⟩ x2).setCell ⟨g, 3, none⟩ x3).setCell ⟨g, 4, none⟩ x4).setCell ⟨g, 5, none⟩ x5) := by
  have h1 := h.lo
  have od : Only1 R w ((((((W.setCell ⟨g, 0, none⟩ x0).setCell ⟨g, 1, none⟩ x1).setCell ⟨g, 2, none⟩ x2).setCell ⟨g, 3, none⟩ x3).setCell ⟨g, 4, none⟩ x4).setCell ⟨g, 5, none⟩ x5) := (((((h.od.setNew hg x0).setNew hg x1).setNew hg x2).setNew hg x3).setNew hg x4).setNew hg x5
  refine ⟨od, ?_, ?_, hV.rd h0 od, h.hi, h.lo⟩
  · show _ = _
    rw [six_keep (show R ≠ g by omega)]
    exact h.rd
  · rw [six_keep hn]
    exact h.rs
theorem rf_rd (h : RfS w R gr S b W) : RdAt ((((((W.setCell ⟨gr, 0, none⟩ x0).setCell ⟨gr, 1, none⟩ x1).setCell ⟨gr, 2, none⟩ x2).setCell ⟨gr, 3, none⟩ x3).setCell ⟨gr, 4, none⟩ x4).setCell ⟨gr, 5, none⟩ x5) R S b := by
  have h1 := h.lo
  have h2 := h.hi
  show _ = _
  rw [six_keep (show R ≠ gr by omega)]
  exact h.rd
theorem rf_od (h : RfS w R gr S b W) : Only1 R w ((((((W.setCell ⟨gr, 0, none⟩ x0).setCell ⟨gr, 1, none⟩ x1).setCell ⟨gr, 2, none⟩ x2).setCell ⟨gr, 3, none⟩ x3).setCell ⟨gr, 4, none⟩ x4).setCell ⟨gr, 5, none⟩ x5) :=
  (((((h.od.setNew h.hi x0).setNew h.hi x1).setNew h.hi x2).setNew h.hi x3).setNew h.hi x4).setNew h.hi x5
end
/-- What Read has read, of a reader that may have stopped ahead of it (b0). -/
def ReadAny (S : ByteArray) (b0 : Bool) (z : TrP) (b : Bool) (S' : ByteArray) : Prop := (b = true → z = noTr) ∧ (b = false → b0 = false ∧ rightT z = true ∧ S = sixX z ++ S') ∧ (∀ t T, b0 = false → rightT t = true → S = sixX t ++ T → b = false) ∧ S'.size ≤ S.size
/-- The greatest that number j + 1 may be. -/
def limJ (m : TrP) : Nat → Int
  | 0 => m.sn
  | 1 => m.ms
  | 2 => m.wk
  | 3 => m.ls
  | _ => m.un
theorem six_read {S : ByteArray} {b0 : Bool} {v0 : Int} {b1 : Bool} {S1 : ByteArray} {vf : Nat → Int} {Sf : Nat → ByteArray} {bf : Nat → Bool} {m : TrP} (hm : m = limP v0) (h0 : Rd1 S b0 0 4 v0 S1 b1) (e0 : Sf 0 = S1) (e1 : bf 0 = b1) (hs : ∀ j, j < 5 → Rd1 (Sf j) (bf j) 0 (limJ m j) (vf j) (Sf (j + 1)) (bf (j + 1))) :
    (bf 5 = false → b0 = false ∧ rightT ⟨v0, vf 0, vf 1, vf 2, vf 3, vf 4⟩ = true ∧ S = sixX ⟨v0, vf 0, vf 1, vf 2, vf 3, vf 4⟩ ++ Sf 5) ∧ ∀ t T, b0 = false → rightT t = true → S = sixX t ++ T → bf 5 = false := by
  have h1 := hs 0 (by omega)
  have h2 := hs 1 (by omega)
  have h3 := hs 2 (by omega)
  have h4 := hs 3 (by omega)
  have h5 := hs 4 (by omega)
  rw [e0, e1] at h1
  simp only [limJ, Nat.zero_add, Nat.reduceAdd] at h1 h2 h3 h4 h5
  constructor
  · intro h
    obtain ⟨c5, l5, u5, k5⟩ := h5.yes h
    obtain ⟨c4, l4, u4, k4⟩ := h4.yes c5
    obtain ⟨c3, l3, u3, k3⟩ := h3.yes c4
    obtain ⟨c2, l2, u2, k2⟩ := h2.yes c3
    obtain ⟨c1, l1, u1, k1⟩ := h1.yes c2
    obtain ⟨c0, l0, u0, k0⟩ := h0.yes c1
    refine ⟨c0, ?_, ?_⟩
    · rw [← allUp_right]
      show allUp _ (limP v0) = true
      rw [← hm]
      have hst : m.st = 4 := by rw [hm]; unfold limP; split <;> (try split) <;> rfl
      unfold allUp
      simp only [Bool.and_eq_true, upTo1_iff, hst]
      exact ⟨⟨⟨⟨⟨⟨l0, u0⟩, l1, u1⟩, l2, u2⟩, l3, u3⟩, l4, u4⟩, l5, u5⟩
    · apply bl_inj
      rw [sixX_bl, k0, k1, k2, k3, k4, k5]
      simp only [bl_append, bl_numX]
  · intro t T hb0 ht hS
    have hs := ht
    rw [← allUp_right] at hs
    have hin := rightT_small ht
    have hst : (limP t.st).st = 4 := by unfold limP; split <;> (try split) <;> rfl
    unfold allUp at hs
    simp only [Bool.and_eq_true, upTo1_iff, hst] at hs
    obtain ⟨⟨⟨⟨⟨⟨l0, u0⟩, l1, u1⟩, l2, u2⟩, l3, u3⟩, l4, u4⟩, l5, u5⟩ := hs
    have i1 := hin.sn
    have i2 := hin.ms
    have i3 := hin.wk
    have i4 := hin.ls
    have i5 := hin.un
    unfold smI at i1 i2 i3 i4 i5
    have k0 : S = numX t.st ++ (numX t.sn ++ (numX t.ms ++ (numX t.wk ++ (numX t.ls ++ (numX t.un ++ T))))) := by
      apply bl_inj
      rw [hS, sixX_bl]
      simp only [bl_append, bl_numX]
    have c1 := h0.full _ _ hb0 (by omega) (by omega) (by omega) (by omega) k0
    obtain ⟨r0, k1⟩ := h0.same c1 k0
    rw [r0] at hm
    rw [← hm] at u1 u2 u3 u4 u5
    have c2 := h1.full _ _ c1 (by omega) (by omega) (by omega) (by omega) k1
    obtain ⟨_, k2⟩ := h1.same c2 k1
    have c3 := h2.full _ _ c2 (by omega) (by omega) (by omega) (by omega) k2
    obtain ⟨_, k3⟩ := h2.same c3 k2
    have c4 := h3.full _ _ c3 (by omega) (by omega) (by omega) (by omega) k3
    obtain ⟨_, k4⟩ := h3.same c4 k3
    have c5 := h4.full _ _ c4 (by omega) (by omega) (by omega) (by omega) k4
    obtain ⟨_, k5⟩ := h4.same c5 k4
    exact h5.full _ _ c5 (by omega) (by omega) (by omega) (by omega) k5
/-- While the numbers are read: k of them (and, at last, they as one value) stand in their slots. -/
def RfJ (w : World) (R gr gl : Nat) (v0 : Int) (m : TrP) (S1 : ByteArray) (b1 : Bool) (k : Nat) (a : Act) (W : World) : Prop :=
  ∃ (u5 : Value) (xf : Nat → Value) (vf : Nat → Int) (Sf : Nat → ByteArray) (bf : Nat → Bool),
    a = { tmps := #[.pointer (some ⟨R, 0, none⟩), undef, .pointer (some ⟨gr, 0, none⟩), .int .i64 v0, .pointer (some ⟨gl, 0, none⟩), u5, .pointer (some ⟨R, 0, none⟩), .int .i64 v0, .int .i64 v0, tryV m, .int .i64 v0, .pointer (some ⟨R, 0, none⟩), .pointer (some ⟨gl, 1, none⟩), .int .i64 m.sn, xf 0, .pointer (some ⟨R, 0, none⟩), .pointer (some ⟨gl, 2, none⟩), .int .i64 m.ms, xf 1, .pointer (some ⟨R, 0, none⟩), .pointer (some ⟨gl, 3, none⟩), .int .i64 m.wk, xf 2, .pointer (some ⟨R, 0, none⟩), .pointer (some ⟨gl, 4, none⟩), .int .i64 m.ls, xf 3, .pointer (some ⟨R, 0, none⟩), .pointer (some ⟨gl, 5, none⟩), .int .i64 m.un, xf 4, xf 5, undef, undef, undef, undef, undef], defers := [] } ∧
    RfS w R gr (Sf (min k 5)) (bf (min k 5)) W ∧ gl < W.heap.size ∧ Sf 0 = S1 ∧ bf 0 = b1 ∧ (∀ j, j < k → j < 5 → Rd1 (Sf j) (bf j) 0 (limJ m j) (vf j) (Sf (j + 1)) (bf (j + 1)) ∧ xf j = .int .i64 (vf j)) ∧
    (k = 6 → xf 5 = tryV ⟨v0, vf 0, vf 1, vf 2, vf 3, vf 4⟩)
theorem rd1_sizes {vf : Nat → Int} {Sf : Nat → ByteArray} {bf : Nat → Bool} {m : TrP} {k n : Nat} (h0 : (Sf 0).size ≤ n) (h : ∀ j, j < k → j < 5 → Rd1 (Sf j) (bf j) 0 (limJ m j) (vf j) (Sf (j + 1)) (bf (j + 1))) : ∀ j, j ≤ k → j ≤ 5 → (Sf j).size ≤ n
  | 0, _, _ => h0
  | j + 1, h1, h2 => Nat.le_trans (h j (by omega) (by omega)).size (rd1_sizes h0 h j (by omega) (by omega))
set_option maxHeartbeats 8000000 in
set_option maxRecDepth 100000 in
theorem lread_any {w : World} {R : Nat} {S : ByteArray} {b0 : Bool} (hr : RdAt w R S b0) (hV : VarsAt w) (hS : S.size ≤ 1000000) :
    Calls Tryz.prog 49 #[.pointer (some ⟨R, 0, none⟩)] w fun e w' => ∃ z b S', e = .returned (tryV z) ∧ RdAt w' R S' b ∧ Only1 R w w' ∧ ReadAny S b0 z b S' := by
  have m1 := made_at w (.cells z6 73)
  have b1 := (Below.refl w.heap.size w).alloc (Nat.le_refl _) (.cells z6 73)
  have HV := Lib.hid hV
  have H0 := Lib.hid hr
  have HS0 := Lib.hid (show RfS w R w.heap.size S b0 (w.alloc (.cells z6 73)) from ⟨.of_below b1, hr.below b1, m1, hV.later b1, Nat.le_refl _, hr.low⟩)
  have HSZ := Lib.hid hS
  clear m1 b1 hV hr hS
  go_enter Tryz.func49, Tryz.ntmps49
  go_upto_region 1 with fail
  generalize hW0 : w.alloc _ = W0 at *
  clear hW0
  go_wp2_with fail
  refine (int_step HS0.out.rd HS0.out.ve HSZ.out 0 4).mono ?_
  rintro e u0 ⟨v0, S1, b1, rfl, hr, ho, hd0⟩
  have HS1 := Lib.hid (HS0.out.only hr ho)
  have HD0 := Lib.hid hd0
  have HSZ1 := Lib.hid (Nat.le_trans hd0.size HSZ.out)
  obtain ⟨m, hm⟩ : ∃ m, m = limP v0 := ⟨_, rfl⟩
  have HM := Lib.hid hm
  have HL := Lib.hid (fun W : World => show Calls Tryz.prog 76 #[.int .i64 v0] W (fun e w' => e = .returned (tryV m) ∧ Below W.heap.size W w') from by rw [hm]; exact llimits_is _)
  clear hr ho hd0 hm HS0
  go_wp2_with fail
  refine (HL.out _).mono ?_
  rintro e u1 ⟨rfl, hb1⟩
  have HS2 := Lib.hid (HS1.out.later hb1)
  clear hb1 HS1 HL
  have hal := (Below.refl u1.heap.size u1).alloc (Nat.le_refl _) (.cells (tryA m) 73)
  have HS3 := Lib.hid (HS2.out.later hal)
  have HLM := Lib.hid (made_at u1 (.cells (tryA m) 73))
  have HGL := Lib.hid (show w.heap.size < u1.heap.size from (Array.getElem?_eq_some_iff.1 HS2.out.rs).1)
  clear hal HS2
  go_upto_region 3 with fail
  generalize hW3 : u1.alloc _ = W3 at *
  clear hW3
  generalize u1.heap.size = gl at *
  refine wp_region_noPanic ?_
  refine wp_region_held_drew (S := fun W' => W'.heap[gl]? = some (.cells (tryA m) 73 (0, 0))) (by kernel_rfl) (by exact HLM.out) (fun hHeld => ?_)
  refine take_yes 0 10 (v := ?_) rfl rfl (by kernel_rfl) (by kernel_rfl) (by kernel_rfl) noPanic_any (by rfl) hHeld ?_ ?_
  rotate_left
  · intro wx hSw; (try dsimp only at hSw); go_simp <;> with_reducible rfl
  simp only [Act.put, List.setIfInBounds_toArray, List.set_cons_zero, List.set_cons_succ]
  refine take_yes 1 11 (v := ?_) rfl rfl (by kernel_rfl) (by kernel_rfl) (by kernel_rfl) noPanic_any (by rfl) hHeld ?_ ?_
  rotate_left
  · intro wx hSw; (try dsimp only at hSw); go_simp <;> with_reducible rfl
  simp only [Act.put, List.setIfInBounds_toArray, List.set_cons_zero, List.set_cons_succ]
  refine take_yes 2 12 (v := ?_) rfl rfl (by kernel_rfl) (by kernel_rfl) (by kernel_rfl) noPanic_any (by rfl) hHeld ?_ ?_
  rotate_left
  · intro wx hSw; (try dsimp only at hSw); go_simp <;> with_reducible rfl
  simp only [Act.put, List.setIfInBounds_toArray, List.set_cons_zero, List.set_cons_succ]
  refine take_yes 3 13 (v := ?_) rfl rfl (by kernel_rfl) (by kernel_rfl) (by kernel_rfl) noPanic_any (by rfl) hHeld ?_ ?_
  rotate_left
  · intro wx hSw; (try dsimp only at hSw); have y0 := cellH hSw 1; simp at y0; go_simp <;> with_reducible rfl
  simp only [Act.put, List.setIfInBounds_toArray, List.set_cons_zero, List.set_cons_succ]
  refine take_yes 5 15 (v := ?_) rfl rfl (by kernel_rfl) (by kernel_rfl) (by kernel_rfl) noPanic_any (by rfl) hHeld ?_ ?_
  rotate_left
  · intro wx hSw; (try dsimp only at hSw); go_simp <;> with_reducible rfl
  simp only [Act.put, List.setIfInBounds_toArray, List.set_cons_zero, List.set_cons_succ]
  refine take_yes 6 16 (v := ?_) rfl rfl (by kernel_rfl) (by kernel_rfl) (by kernel_rfl) noPanic_any (by rfl) hHeld ?_ ?_
  rotate_left
  · intro wx hSw; (try dsimp only at hSw); go_simp <;> with_reducible rfl
  simp only [Act.put, List.setIfInBounds_toArray, List.set_cons_zero, List.set_cons_succ]
  refine take_yes 7 17 (v := ?_) rfl rfl (by kernel_rfl) (by kernel_rfl) (by kernel_rfl) noPanic_any (by rfl) hHeld ?_ ?_
  rotate_left
  · intro wx hSw; (try dsimp only at hSw); have y0 := cellH hSw 2; simp at y0; go_simp <;> with_reducible rfl
  simp only [Act.put, List.setIfInBounds_toArray, List.set_cons_zero, List.set_cons_succ]
  refine take_yes 9 19 (v := ?_) rfl rfl (by kernel_rfl) (by kernel_rfl) (by kernel_rfl) noPanic_any (by rfl) hHeld ?_ ?_
  rotate_left
  · intro wx hSw; (try dsimp only at hSw); go_simp <;> with_reducible rfl
  simp only [Act.put, List.setIfInBounds_toArray, List.set_cons_zero, List.set_cons_succ]
  refine take_yes 10 20 (v := ?_) rfl rfl (by kernel_rfl) (by kernel_rfl) (by kernel_rfl) noPanic_any (by rfl) hHeld ?_ ?_
  rotate_left
  · intro wx hSw; (try dsimp only at hSw); go_simp <;> with_reducible rfl
  simp only [Act.put, List.setIfInBounds_toArray, List.set_cons_zero, List.set_cons_succ]
  refine take_yes 11 21 (v := ?_) rfl rfl (by kernel_rfl) (by kernel_rfl) (by kernel_rfl) noPanic_any (by rfl) hHeld ?_ ?_
  rotate_left
  · intro wx hSw; (try dsimp only at hSw); have y0 := cellH hSw 3; simp at y0; go_simp <;> with_reducible rfl
  simp only [Act.put, List.setIfInBounds_toArray, List.set_cons_zero, List.set_cons_succ]
  refine take_yes 13 23 (v := ?_) rfl rfl (by kernel_rfl) (by kernel_rfl) (by kernel_rfl) noPanic_any (by rfl) hHeld ?_ ?_
  rotate_left
  · intro wx hSw; (try dsimp only at hSw); go_simp <;> with_reducible rfl
  simp only [Act.put, List.setIfInBounds_toArray, List.set_cons_zero, List.set_cons_succ]
  refine take_yes 14 24 (v := ?_) rfl rfl (by kernel_rfl) (by kernel_rfl) (by kernel_rfl) noPanic_any (by rfl) hHeld ?_ ?_
  rotate_left
  · intro wx hSw; (try dsimp only at hSw); go_simp <;> with_reducible rfl
  simp only [Act.put, List.setIfInBounds_toArray, List.set_cons_zero, List.set_cons_succ]
  refine take_yes 15 25 (v := ?_) rfl rfl (by kernel_rfl) (by kernel_rfl) (by kernel_rfl) noPanic_any (by rfl) hHeld ?_ ?_
  rotate_left
  · intro wx hSw; (try dsimp only at hSw); have y0 := cellH hSw 4; simp at y0; go_simp <;> with_reducible rfl
  simp only [Act.put, List.setIfInBounds_toArray, List.set_cons_zero, List.set_cons_succ]
  refine take_yes 17 27 (v := ?_) rfl rfl (by kernel_rfl) (by kernel_rfl) (by kernel_rfl) noPanic_any (by rfl) hHeld ?_ ?_
  rotate_left
  · intro wx hSw; (try dsimp only at hSw); go_simp <;> with_reducible rfl
  simp only [Act.put, List.setIfInBounds_toArray, List.set_cons_zero, List.set_cons_succ]
  refine take_yes 18 28 (v := ?_) rfl rfl (by kernel_rfl) (by kernel_rfl) (by kernel_rfl) noPanic_any (by rfl) hHeld ?_ ?_
  rotate_left
  · intro wx hSw; (try dsimp only at hSw); go_simp <;> with_reducible rfl
  simp only [Act.put, List.setIfInBounds_toArray, List.set_cons_zero, List.set_cons_succ]
  refine take_yes 19 29 (v := ?_) rfl rfl (by kernel_rfl) (by kernel_rfl) (by kernel_rfl) noPanic_any (by rfl) hHeld ?_ ?_
  rotate_left
  · intro wx hSw; (try dsimp only at hSw); have y0 := cellH hSw 5; simp at y0; go_simp <;> with_reducible rfl
  simp only [Act.put, List.setIfInBounds_toArray, List.set_cons_zero, List.set_cons_succ]
  have HSD := Lib.hid (HS3.out.later (Below.refl _ _).drew)
  clear HS3 HLM
  have HLT := Lib.hid (show gl < W3.drew.heap.size from (Array.getElem?_eq_some_iff.1 hHeld).1)
  generalize W3.drew = W4 at *
  refine chain_all (i0 := 22) (d := 5) (N := gl + 1) (ob := .cells z6 73) 1 [4, 8, 12, 16, 20, 21] rfl rfl rfl rfl (fun W => by go_simp) (by kernel_rfl) (RfJ w R w.heap.size gl v0 m S1 b1) ?j0 hHeld ?jJ ?jN ?jS ?jst ?jend
  case j0 => exact ⟨undef, fun _ => undef, fun _ => 0, fun _ => S1, fun _ => b1, rfl, HSD.out, HLT.out, rfl, rfl, fun j hj => by omega, fun h => by omega⟩
  case jJ =>
    rintro k a W ⟨u5, xf, vf, Sf, bf, rfl, h1, h2, h3, h4, h5, h6⟩
    have hb := (Below.refl W.heap.size W).alloc (Nat.le_refl _) (.cells z6 73)
    exact ⟨_, xf, vf, Sf, bf, rfl, h1.later hb, Nat.lt_of_lt_of_le h2 hb.size, h3, h4, h5, h6⟩
  case jN =>
    rintro k a W ⟨u5, xf, vf, Sf, bf, rfl, h1, h2, h3, h4, h5, h6⟩
    exact ⟨h2, by simp⟩
  case jS =>
    intro W hW
    exact later_at ((Below.refl W.heap.size W).alloc (Nat.le_refl _) _) hW
  case jst =>
    intro j i hi a W hj hs
    match j, hi with
    | 0, hi =>
      obtain rfl : 4 = i := by simpa using hi
      obtain ⟨u5, xf, vf, Sf, bf, rfl, h1, h2, h3, h4, h5, h6⟩ := hj
      refine wpOp_step rfl (fun KK hKK => ?_)
      have HKK := Lib.hid hKK
      have HJ1 := Lib.hid h1
      have HJ5 := Lib.hid h5
      have HJ3 := Lib.hid h3
      have HJS := Lib.hid (show (Sf 0).size ≤ 1000000 from rd1_sizes (by rw [h3]; exact HSZ1.out) (fun j a b => (h5 j a b).1) 0 (by omega) (by omega))
      clear hKK h1 h5 h3 h6
      go_simp
      refine (int_step HJ1.out.rd HJ1.out.ve HJS.out 0 (limJ m 0)).mono ?_
      rintro e W' ⟨v, S', b', rfl, hr, ho, hd⟩
      refine HKK.out _ _ ⟨ho.at hs (by have := HJ1.out.lo; have := HJ1.out.hi; have := HGL.out; omega), ⟨u5, fun j => if j = 0 then .int .i64 v else xf j, fun j => if j = 0 then v else vf j, fun j => if j = 1 then S' else Sf j, fun j => if j = 1 then b' else bf j, rfl, HJ1.out.only hr ho, Nat.lt_of_lt_of_le h2 ho.size, HJ3.out, h4, fun j hj1 hj2 => ?_, fun h => by omega⟩, fun g hg hw => ho.at hw (by have := HJ1.out.lo; have := HJ1.out.hi; have := HGL.out; omega), rfl⟩
      by_cases hjk : j = 0
      · subst hjk
        exact ⟨hd, rfl⟩
      · have hjl : j < 0 := by omega
        have hj5 := HJ5.out j hjl hj2
        simp only [if_neg hjk, if_neg (show ¬ j = 1 by omega), if_neg (show ¬ j + 1 = 1 by omega)]
        exact hj5
    | 1, hi =>
      obtain rfl : 8 = i := by simpa using hi
      obtain ⟨u5, xf, vf, Sf, bf, rfl, h1, h2, h3, h4, h5, h6⟩ := hj
      refine wpOp_step rfl (fun KK hKK => ?_)
      have HKK := Lib.hid hKK
      have HJ1 := Lib.hid h1
      have HJ5 := Lib.hid h5
      have HJ3 := Lib.hid h3
      have HJS := Lib.hid (show (Sf 1).size ≤ 1000000 from rd1_sizes (by rw [h3]; exact HSZ1.out) (fun j a b => (h5 j a b).1) 1 (by omega) (by omega))
      clear hKK h1 h5 h3 h6
      go_simp
      refine (int_step HJ1.out.rd HJ1.out.ve HJS.out 0 (limJ m 1)).mono ?_
      rintro e W' ⟨v, S', b', rfl, hr, ho, hd⟩
      refine HKK.out _ _ ⟨ho.at hs (by have := HJ1.out.lo; have := HJ1.out.hi; have := HGL.out; omega), ⟨u5, fun j => if j = 1 then .int .i64 v else xf j, fun j => if j = 1 then v else vf j, fun j => if j = 2 then S' else Sf j, fun j => if j = 2 then b' else bf j, rfl, HJ1.out.only hr ho, Nat.lt_of_lt_of_le h2 ho.size, HJ3.out, h4, fun j hj1 hj2 => ?_, fun h => by omega⟩, fun g hg hw => ho.at hw (by have := HJ1.out.lo; have := HJ1.out.hi; have := HGL.out; omega), rfl⟩
      by_cases hjk : j = 1
      · subst hjk
        exact ⟨hd, rfl⟩
      · have hjl : j < 1 := by omega
        have hj5 := HJ5.out j hjl hj2
        simp only [if_neg hjk, if_neg (show ¬ j = 2 by omega), if_neg (show ¬ j + 1 = 2 by omega)]
        exact hj5
    | 2, hi =>
      obtain rfl : 12 = i := by simpa using hi
      obtain ⟨u5, xf, vf, Sf, bf, rfl, h1, h2, h3, h4, h5, h6⟩ := hj
      refine wpOp_step rfl (fun KK hKK => ?_)
      have HKK := Lib.hid hKK
      have HJ1 := Lib.hid h1
      have HJ5 := Lib.hid h5
      have HJ3 := Lib.hid h3
      have HJS := Lib.hid (show (Sf 2).size ≤ 1000000 from rd1_sizes (by rw [h3]; exact HSZ1.out) (fun j a b => (h5 j a b).1) 2 (by omega) (by omega))
      clear hKK h1 h5 h3 h6
      go_simp
      refine (int_step HJ1.out.rd HJ1.out.ve HJS.out 0 (limJ m 2)).mono ?_
      rintro e W' ⟨v, S', b', rfl, hr, ho, hd⟩
      refine HKK.out _ _ ⟨ho.at hs (by have := HJ1.out.lo; have := HJ1.out.hi; have := HGL.out; omega), ⟨u5, fun j => if j = 2 then .int .i64 v else xf j, fun j => if j = 2 then v else vf j, fun j => if j = 3 then S' else Sf j, fun j => if j = 3 then b' else bf j, rfl, HJ1.out.only hr ho, Nat.lt_of_lt_of_le h2 ho.size, HJ3.out, h4, fun j hj1 hj2 => ?_, fun h => by omega⟩, fun g hg hw => ho.at hw (by have := HJ1.out.lo; have := HJ1.out.hi; have := HGL.out; omega), rfl⟩
      by_cases hjk : j = 2
      · subst hjk
        exact ⟨hd, rfl⟩
      · have hjl : j < 2 := by omega
        have hj5 := HJ5.out j hjl hj2
        simp only [if_neg hjk, if_neg (show ¬ j = 3 by omega), if_neg (show ¬ j + 1 = 3 by omega)]
        exact hj5
    | 3, hi =>
      obtain rfl : 16 = i := by simpa using hi
      obtain ⟨u5, xf, vf, Sf, bf, rfl, h1, h2, h3, h4, h5, h6⟩ := hj
      refine wpOp_step rfl (fun KK hKK => ?_)
      have HKK := Lib.hid hKK
      have HJ1 := Lib.hid h1
      have HJ5 := Lib.hid h5
      have HJ3 := Lib.hid h3
      have HJS := Lib.hid (show (Sf 3).size ≤ 1000000 from rd1_sizes (by rw [h3]; exact HSZ1.out) (fun j a b => (h5 j a b).1) 3 (by omega) (by omega))
      clear hKK h1 h5 h3 h6
      go_simp
      refine (int_step HJ1.out.rd HJ1.out.ve HJS.out 0 (limJ m 3)).mono ?_
      rintro e W' ⟨v, S', b', rfl, hr, ho, hd⟩
      refine HKK.out _ _ ⟨ho.at hs (by have := HJ1.out.lo; have := HJ1.out.hi; have := HGL.out; omega), ⟨u5, fun j => if j = 3 then .int .i64 v else xf j, fun j => if j = 3 then v else vf j, fun j => if j = 4 then S' else Sf j, fun j => if j = 4 then b' else bf j, rfl, HJ1.out.only hr ho, Nat.lt_of_lt_of_le h2 ho.size, HJ3.out, h4, fun j hj1 hj2 => ?_, fun h => by omega⟩, fun g hg hw => ho.at hw (by have := HJ1.out.lo; have := HJ1.out.hi; have := HGL.out; omega), rfl⟩
      by_cases hjk : j = 3
      · subst hjk
        exact ⟨hd, rfl⟩
      · have hjl : j < 3 := by omega
        have hj5 := HJ5.out j hjl hj2
        simp only [if_neg hjk, if_neg (show ¬ j = 4 by omega), if_neg (show ¬ j + 1 = 4 by omega)]
        exact hj5
    | 4, hi =>
      obtain rfl : 20 = i := by simpa using hi
      obtain ⟨u5, xf, vf, Sf, bf, rfl, h1, h2, h3, h4, h5, h6⟩ := hj
      refine wpOp_step rfl (fun KK hKK => ?_)
      have HKK := Lib.hid hKK
      have HJ1 := Lib.hid h1
      have HJ5 := Lib.hid h5
      have HJ3 := Lib.hid h3
      have HJS := Lib.hid (show (Sf 4).size ≤ 1000000 from rd1_sizes (by rw [h3]; exact HSZ1.out) (fun j a b => (h5 j a b).1) 4 (by omega) (by omega))
      clear hKK h1 h5 h3 h6
      go_simp
      refine (int_step HJ1.out.rd HJ1.out.ve HJS.out 0 (limJ m 4)).mono ?_
      rintro e W' ⟨v, S', b', rfl, hr, ho, hd⟩
      refine HKK.out _ _ ⟨ho.at hs (by have := HJ1.out.lo; have := HJ1.out.hi; have := HGL.out; omega), ⟨u5, fun j => if j = 4 then .int .i64 v else xf j, fun j => if j = 4 then v else vf j, fun j => if j = 5 then S' else Sf j, fun j => if j = 5 then b' else bf j, rfl, HJ1.out.only hr ho, Nat.lt_of_lt_of_le h2 ho.size, HJ3.out, h4, fun j hj1 hj2 => ?_, fun h => by omega⟩, fun g hg hw => ho.at hw (by have := HJ1.out.lo; have := HJ1.out.hi; have := HGL.out; omega), rfl⟩
      by_cases hjk : j = 4
      · subst hjk
        exact ⟨hd, rfl⟩
      · have hjl : j < 4 := by omega
        have hj5 := HJ5.out j hjl hj2
        simp only [if_neg hjk, if_neg (show ¬ j = 5 by omega), if_neg (show ¬ j + 1 = 5 by omega)]
        exact hj5
    | 5, hi =>
      obtain rfl : 21 = i := by simpa using hi
      obtain ⟨u5, xf, vf, Sf, bf, rfl, h1, h2, h3, h4, h5, h6⟩ := hj
      refine wpOp_step rfl (fun KK hKK => ?_)
      have HKK := Lib.hid hKK
      have HJ1 := Lib.hid h1
      have HJ5 := Lib.hid h5
      have HJ3 := Lib.hid h3
      have y0 := (h5 0 (by omega) (by omega)).2
      have y1 := (h5 1 (by omega) (by omega)).2
      have y2 := (h5 2 (by omega) (by omega)).2
      have y3 := (h5 3 (by omega) (by omega)).2
      have y4 := (h5 4 (by omega) (by omega)).2
      clear hKK h1 h5 h3 h6
      go_simp
      refine HKK.out _ _ ⟨hs, ⟨u5, fun j => if j = 5 then tryV ⟨v0, vf 0, vf 1, vf 2, vf 3, vf 4⟩ else xf j, vf, Sf, bf, ?_, HJ1.out, h2, HJ3.out, h4, fun j hj1 hj2 => ?_, fun _ => rfl⟩, fun g hg hw => hw, rfl⟩
      · simp only [y0, y1, y2, y3, y4]
        rfl
      · have hj5 := HJ5.out j hj2 hj2
        simp only [if_neg (show ¬ j = 5 by omega)]
        exact hj5
    | j + 6, hi => simp at hi
  case jend =>
    rintro a W g ⟨u5, xf, vf, Sf, bf, rfl, h1, h2, h3, h4, h5, h6⟩ hs hg hw he
    obtain rfl : u5 = .pointer (some ⟨g, 0, none⟩) := he
    have h6' := h6 rfl
    have HSS := Lib.hid (show (Sf 5).size ≤ S.size from rd1_sizes (by rw [h3]; exact HD0.out.size) (fun j a b => (h5 j (by show j < 6; omega) b).1) 5 (Nat.le_refl _) (Nat.le_refl _))
    have HSR := Lib.hid (six_read HM.out HD0.out h3 h4 (fun j hj => (h5 j (by show j < 6; omega) hj).1))
    have HJ := Lib.hid (show RfS w R w.heap.size (Sf 5) (bf 5) W from h1)
    obtain ⟨z, hz⟩ : ∃ z : TrP, z = ⟨v0, vf 0, vf 1, vf 2, vf 3, vf 4⟩ := ⟨_, rfl⟩
    rw [← hz] at h6' HSR
    have HWG := Lib.hid hw
    have HNL := Lib.hid (show gl ≠ g by omega)
    have HNG := Lib.hid (show w.heap.size ≠ g ∧ w.heap.size ≤ g by have := HGL.out; have := HJ.out.hi; omega)
    obtain ⟨⟨q0, q1, q2, q3, q4, q5⟩, f0, f1, f2, f3, f4, f5⟩ := cells6 hw
    clear h1 h2 h3 h4 h5 h6 hz hw hg
    rw [h6']
    generalize bf 5 = b6 at *
    generalize Sf 5 = S6 at *
    refine one_readyH (i := 23) (by kernel_rfl) (wpOp_step rfl (fun KK hKK => ?_))
    have HKK := Lib.hid hKK
    clear hKK
    go_simp
    refine HKK.out _ _ ⟨?_, ?_⟩
    · rw [six_keep HNL.out]
      exact hs
    refine wpAnyH_done (by kernel_rfl) ?_ _
    refine NoPanic.normal ?_
    have HS6 := Lib.hid (HJ.out.six (x0 := .int .i64 z.st) (x1 := .int .i64 z.sn) (x2 := .int .i64 z.ms) (x3 := .int .i64 z.wk) (x4 := .int .i64 z.ls) (x5 := .int .i64 z.un) HV.out H0.out HNG.out.2 HNG.out.1)
    have HG6 := Lib.hid (six_row (v0 := .int .i64 z.st) (v1 := .int .i64 z.sn) (v2 := .int .i64 z.ms) (v3 := .int .i64 z.wk) (v4 := .int .i64 z.ls) (v5 := .int .i64 z.un) HWG.out)
    clear HKK KK q0 q1 q2 q3 q4 q5 f0 f1 f2 f3 f4 f5 hs HJ HWG
    generalize hV6 : ((((((W.setCell ⟨g, 0, none⟩ (.int .i64 z.st)).setCell ⟨g, 1, none⟩ (.int .i64 z.sn)).setCell ⟨g, 2, none⟩ (.int .i64 z.ms)).setCell ⟨g, 3, none⟩ (.int .i64 z.wk)).setCell ⟨g, 4, none⟩ (.int .i64 z.ls)).setCell ⟨g, 5, none⟩ (.int .i64 z.un)) = V6 at *
    clear hV6
    go_wp2_with fail
    refine (rd_ok HS6.out.rd).mono ?_
    rintro e w9 ⟨rfl, hb9⟩
    have HS9 := Lib.hid (HS6.out.later hb9)
    have HG9 := Lib.hid (later_at hb9 HG6.out)
    clear hb9 HS6 HG6
    obtain ⟨⟨y0, y1, y2, y3, y4, y5⟩, f0, f1, f2, f3, f4, f5⟩ := cells6 HS9.out.rs
    cases b6 with
    | true =>
      go_wp2_with fail
      exact bodyPost_ret (results_cell_row (fn := Tryz.f49) rfl _ _ w.heap.size 73 z6 (0, 0) _ rfl (six_row HS9.out.rs) Tryz.underlying73 rfl info_tryL) rfl ⟨noTr, true, S6, rfl, rf_rd HS9.out, rf_od HS9.out, fun _ => rfl, (fun h => by cases h), fun t T hb ht hS => HSR.out.2 t T hb ht hS, HSS.out⟩
    | false =>
      obtain ⟨⟨x0, x1, x2, x3, x4, x5⟩, _⟩ := cells6 HG9.out
      go_wp2_with fail
      exact bodyPost_ret (results_cell_row (fn := Tryz.f49) rfl _ _ w.heap.size 73 (tryA z) (0, 0) _ rfl (six_row HS9.out.rs) Tryz.underlying73 rfl info_tryL) rfl ⟨z, false, S6, rfl, rf_rd HS9.out, rf_od HS9.out, (fun h => by cases h), fun _ => HSR.out.1 (by first | rfl | trivial), fun t T _ ht hS => rfl, HSS.out⟩
theorem lread_is {w : World} {R : Nat} {S : ByteArray} (hr : RdAt w R S false) (hV : VarsAt w) (hS : S.size ≤ 1000000) :
    Calls Tryz.prog 49 #[.pointer (some ⟨R, 0, none⟩)] w fun e w' => ∃ z b S', e = .returned (tryV z) ∧ RdAt w' R S' b ∧ Only1 R w w' ∧ ReadSpec S z b S' :=
  (lread_any hr hV hS).mono fun _ _ ⟨z, b, S', h1, h2, h3, h4⟩ => ⟨z, b, S', h1, h2, h3, h4.1, fun hb => (h4.2.1 hb).2, fun t T => h4.2.2.1 t T rfl⟩
theorem ls_rw : LsRW where
  write := fun t hw hl hm hin hT => lwrite_is t hw hl hm hin hT
  read := fun hr hV hS => lread_is hr hV hS
end Go.Proofs.YtfjaibaidpbppaaGreatDoor
