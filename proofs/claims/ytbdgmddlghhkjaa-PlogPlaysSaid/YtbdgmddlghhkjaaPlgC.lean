/-
  The program's log (package plog) in memory; what its Gen, Base, Room and Records, and Sectors, start and later answer. No conditions but how it lies.
-/
import Derived.Test.YtbdgmddlghhkjaaPlgB
import Derived.Test.YtbdgmddlghhkjaaDiskQ
import Derived.Test.YtbdgmddlghhkjaaSecZ
namespace Go.Proofs.Ytbdgmddlghhkjaa
open Go.RowKit

/-- A Log's own numbers. -/
structure PCfg where
  base : Int
  half : Int
  boot : Int
  laid : Int
def roomV (half : Int) (K : LogV) : Int := if K.gen = 0 then 0 else half - K.at_
/-- The program's log lies in block B, its records in the row v. -/
def PlgAt (w : World) (base D B : Nat) (c : PCfg) (K : LogV) (v : Value) : Prop :=
  w.heap[B]? = some (.cells #[.pointer (some ⟨D, 0, none⟩), .int .i64 c.base, .int .i64 c.half, .int .u32 c.boot, .int .u64 c.laid, .int .i64 K.gen, .string K.bs, v, .int .i64 (roomV c.half K)] 69 (0, 0)) ∧ base ≤ B ∧ w.ownsRow base 9 1 v K.recs.length (txV K.recs)
/-- The blocks of the disk's types. -/
def dskU (base : Nat) (w : World) : Nat → Prop := fun i => base ≤ i ∧ ∃ cs t m, w.heap[i]? = some (.cells cs t m) ∧ progT t = true
section
variable {w w' : World} {base D B : Nat} {c : PCfg} {K : LogV} {v : Value} {st : Dk} {P : Nat → Prop}
theorem OnlyP.of_onlyT (h : OnlyT base progT w w') : OnlyP (dskU base w) w w' :=
  ⟨h.os, h.tape, h.output, h.size, fun i hi hn => by
    have ho := Array.getElem?_eq_getElem hi
    rw [ho]
    refine h.block i _ ho ?_
    by_cases hb : i < base
    · exact .inl hb
    · refine .inr fun cs t m e => ?_
      cases ht : progT t
      · rfl
      · exact absurd ⟨by omega, cs, t, m, by rw [ho, e], ht⟩ hn⟩
theorem OnlyP.mono {Q : Nat → Prop} (h : OnlyP P w w') (hQ : ∀ i, i < w.heap.size → P i → Q i) : OnlyP Q w w' :=
  ⟨h.os, h.tape, h.output, h.size, fun i hi hn => h.block i hi (fun p => hn (hQ i hi p))⟩
theorem own_only {e : TypeId} {size n : Nat} {xs : List Value} (h : w.ownsRow base e size v n xs) (ho : OnlyP P w w') (hP : ∀ g, v.ownBlock = some g → ¬ P g) : w'.ownsRow base e size v n xs := by
  obtain ⟨hl, h⟩ := h
  refine ⟨hl, h.imp id ?_⟩
  rintro ⟨q, cap, cur, rfl, hb, hq, hx⟩
  exact ⟨q, cap, cur, rfl, hb, (ho.block q (Array.getElem?_eq_some_iff.1 hq).1 (hP q rfl)).trans hq, hx⟩
theorem PlgAt.frame (h : PlgAt w base D B c K v) (ho : OnlyP P w w') (hB : ¬ P B) (hv : ∀ g, v.ownBlock = some g → ¬ P g) : PlgAt w' base D B c K v :=
  ⟨(ho.block B (Array.getElem?_eq_some_iff.1 h.1).1 hB).trans h.1, h.2.1, own_only h.2.2 ho hv⟩
theorem own_type {e : TypeId} {size n : Nat} {xs : List Value} (h : w.ownsRow base e size v n xs) {g : Nat} (hg : v.ownBlock = some g) : base ≤ g ∧ ∃ cs, w.heap[g]? = some (.cells cs e (0, 0)) := by
  rcases h.2 with ⟨rfl, _⟩ | ⟨q, cap, cur, rfl, hb, hq, _⟩
  · simp [Value.ownBlock] at hg
  · simp [Value.ownBlock] at hg
    subst hg
    exact ⟨hb, _, hq⟩
theorem PlgAt.dsk (h : PlgAt w base D B c K v) {b : Nat} : ¬ dskU b w B ∧ ∀ g, v.ownBlock = some g → ¬ dskU b w g := by
  constructor
  · rintro ⟨_, cs, t, m, e, ht⟩
    rw [h.1] at e
    injection e with e
    injection e with _ e
    rw [← e] at ht
    exact absurd ht (by decide)
  · rintro g hg ⟨_, cs, t, m, e, ht⟩
    obtain ⟨_, cs', e'⟩ := own_type h.2.2 hg
    rw [e'] at e
    injection e with e
    injection e with _ e
    rw [← e] at ht
    exact absurd ht (by decide)
theorem PlgAt.onlyT {b : Nat} (h : PlgAt w base D B c K v) (ho : OnlyT b progT w w') : PlgAt w' base D B c K v :=
  h.frame (.of_onlyT ho) h.dsk.1 h.dsk.2
theorem PlgAt.mono {b : Nat} (h : PlgAt w base D B c K v) (hb : b ≤ base) : PlgAt w b D B c K v := by
  obtain ⟨h1, h2, hl, h3⟩ := h
  refine ⟨h1, Nat.le_trans hb h2, hl, h3.imp id ?_⟩
  rintro ⟨q, cap, cur, e, hq, hx⟩
  exact ⟨q, cap, cur, e, Nat.le_trans hb hq, hx⟩
theorem PlgAt.later (h : PlgAt w base D B c K v) (hb : Below w.heap.size w w') : PlgAt w' base D B c K v :=
  h.frame (P := fun _ => False) ⟨hb.os, hb.tape, hb.output, hb.size, fun i hi _ => hb.block i hi⟩ id (fun _ _ => id)
theorem diskAt_only (h : DiskAt w base D st) (ho : OnlyP P w w') (hP : ∀ i cs t m, P i → w.heap[i]? = some (.cells cs t m) → progT t = false) : DiskAt w' base D st := by
  obtain ⟨S, cv, secs, b, h, hs⟩ := h
  have k : ∀ i (cs : Array Value) (t : TypeId) (m : Nat × Nat), w.heap[i]? = some (Obj.cells cs t m) → progT t = true → w'.heap[i]? = some (Obj.cells cs t m) := fun i cs t m hi ht =>
    (ho.block i (Array.getElem?_eq_some_iff.1 hi).1 (fun p => by rw [hP i cs t m p hi] at ht; cases ht)).trans hi
  refine ⟨S, cv, secs, b, ⟨k _ _ 65 _ h.1 (by decide), k _ _ 98 _ h.2.1 (by decide), ?_, h.2.2.2⟩, hs⟩
  obtain ⟨hl, h2⟩ := h.2.2.1
  refine ⟨hl, h2.imp id ?_⟩
  rintro ⟨q, cap, cur, rfl, hb, hq, hx⟩
  exact ⟨q, cap, cur, rfl, hb, k _ _ 101 _ hq (by decide), hx⟩
theorem diskAt_later (h : DiskAt w base D st) (hb : Below w.heap.size w w') : DiskAt w' base D st :=
  diskAt_only (P := fun _ => False) h ⟨hb.os, hb.tape, hb.output, hb.size, fun i hi _ => hb.block i hi⟩ (fun _ _ _ _ h => h.elim)
end

section
variable {w : World} {base D B : Nat} {c : PCfg} {K : LogV} {v : Value}
set_option maxHeartbeats 400000 in
set_option maxRecDepth 100000 in
theorem sectors_is (s : ByteArray) (hs : s.size ≤ 9223372036854775807) (w : World) :
    Calls Try.prog 24 #[.string s] w fun e w' => e = .returned (.int .i64 (cntN s.size)) ∧ w = w' := by
  have C1 := Lib.hid (fun w : World => count_is s.size (by omega) (by omega) w)
  rw [cntI_nat] at C1
  go_enter Try.func24, Try.ntmps24
  go_wp2_with fail
  refine (C1.out _).mono ?_
  rintro e w1 ⟨rfl, hw1⟩
  subst hw1
  go_wp2_with fail
  go_ret
  exact ⟨rfl, rfl⟩

set_option maxHeartbeats 400000 in
set_option maxRecDepth 100000 in
theorem pstart_is (h : PlgAt w base D B c K v) (g : Int) (h0 : 0 ≤ g) (_h1 : g ≤ 9223372036854775807) (b0 : 0 ≤ c.base) (b1 : c.base ≤ 100000) (b2 : 0 ≤ c.half) (b3 : c.half ≤ 100000) :
    Calls Try.prog 42 #[.pointer (some ⟨B, 0, none⟩), .int .i64 g] w fun e w' => e = .returned (.int .i64 (halfAt c.base c.half g)) ∧ Below w.heap.size w w' := by
  have c1 := cellH h.1 1
  have c2 := cellH h.1 2
  simp at c1 c2
  clear h
  have ht : Int.tmod g 2 = g % 2 := by rw [Int.tmod_eq_emod_of_nonneg h0]
  by_cases hg : g % 2 = 1
  · have H := Lib.hid (show halfAt c.base c.half g = c.base by unfold halfAt; rw [if_pos hg])
    go_enter Try.func42, Try.ntmps42
    go_wp2_with fail
    go_ret
    exact ⟨ret_int H.out.symm, Below.refl _ _⟩
  · have H := Lib.hid (show halfAt c.base c.half g = c.base + c.half by unfold halfAt; rw [if_neg hg])
    go_enter Try.func42, Try.ntmps42
    go_wp2_with fail
    refine wp_region_kept (AtW w.drew) (by kernel_rfl) (by kernel_rfl) ⟨rfl⟩ ?_
    intro hne
    have f1 : ∀ x : HeldW (AtW w.drew), x.w.cell? ⟨B, 1, none⟩ = some (.int .i64 c.base) := fun x => by rw [x.ok.eq]; exact c1
    have f2 : ∀ x : HeldW (AtW w.drew), x.w.cell? ⟨B, 2, none⟩ = some (.int .i64 c.half) := fun x => by rw [x.ok.eq]; exact c2
    repeat (go_big_quiet_step (fail))
    refine wpQuiet_nil ?_
    rintro W1 ⟨⟨_, hF⟩, rfl⟩
    obtain rfl := hF.eq
    go_wp2_with fail
    go_ret
    exact ⟨ret_int H.out.symm, (Below.refl _ _).drew⟩

set_option maxHeartbeats 1600000 in
set_option maxRecDepth 100000 in
theorem later_is (g1 g2 r1 r2 : Int) (b1 b2 : ByteArray) (A1 A2 : Option Addr) (n1 n2 c1 c2 : Nat) (w : World) :
    Calls Try.prog 29 #[.agg #[.int .i64 g1, .string b1, .slice A1 n1 c1, .int .i64 r1], .agg #[.int .i64 g2, .string b2, .slice A2 n2 c2, .int .i64 r2]] w fun e w' =>
      e = .returned (if g2 < g1 then .agg #[.int .i64 g1, .string b1, .slice A1 n1 c1, .int .i64 r1] else .agg #[.int .i64 g2, .string b2, .slice A2 n2 c2, .int .i64 r2]) ∧ Below w.heap.size w w' := by
  by_cases hg : g2 < g1
  · rw [if_pos hg]
    go_enter Try.func29, Try.ntmps29
    go_wp2_with fail
    refine bodyPost_ret (v := .agg #[.int .i64 g1, .string b1, .slice A1 n1 c1, .int .i64 r1]) (by simp [results, Try.results29, go_sem]) rfl ⟨rfl, ?_⟩
    repeat (refine Below.setCell ?_ (by simp <;> omega) _)
    exact (((Below.refl _ _).alloc (Nat.le_refl _) _).alloc (by simp) _).alloc (by simp <;> omega) _
  · rw [if_neg hg]
    go_enter Try.func29, Try.ntmps29
    go_wp2_with fail
    refine bodyPost_ret (v := .agg #[.int .i64 g2, .string b2, .slice A2 n2 c2, .int .i64 r2]) (by simp [results, Try.results29, go_sem]) rfl ⟨rfl, ?_⟩
    repeat (refine Below.setCell ?_ (by simp <;> omega) _)
    exact (((Below.refl _ _).alloc (Nat.le_refl _) _).alloc (by simp) _).alloc (by simp <;> omega) _

set_option maxHeartbeats 400000 in
set_option maxRecDepth 100000 in
theorem pgen_is (h : PlgAt w base D B c K v) :
    Calls Try.prog 14 #[.pointer (some ⟨B, 0, none⟩)] w fun e w' => e = .returned (.int .i64 K.gen) ∧ w = w' := by
  have c1 := cellH h.1 5
  simp at c1
  clear h
  go_enter Try.func14, Try.ntmps14
  go_wp2_with fail
  go_ret
  exact ⟨rfl, rfl⟩
set_option maxHeartbeats 400000 in
set_option maxRecDepth 100000 in
theorem pbase_is (h : PlgAt w base D B c K v) :
    Calls Try.prog 15 #[.pointer (some ⟨B, 0, none⟩)] w fun e w' => e = .returned (.string K.bs) ∧ w = w' := by
  have c1 := cellH h.1 6
  simp at c1
  clear h
  go_enter Try.func15, Try.ntmps15
  go_wp2_with fail
  go_ret
  exact ⟨rfl, rfl⟩
set_option maxHeartbeats 400000 in
set_option maxRecDepth 100000 in
theorem proom_is (h : PlgAt w base D B c K v) :
    Calls Try.prog 17 #[.pointer (some ⟨B, 0, none⟩)] w fun e w' => e = .returned (.int .i64 (roomV c.half K)) ∧ w = w' := by
  have c1 := cellH h.1 8
  simp at c1
  clear h
  generalize roomV c.half K = R at *
  go_enter Try.func17, Try.ntmps17
  go_wp2_with fail
  go_ret
  exact ⟨rfl, rfl⟩

@[go_sem ↓] theorem nilTexts (w : World) (a : Option Addr) (n c : Nat) : (binOp .eql 35 (.slice a n c) (.slice none 0 0)).run Try.prog w = .ok (.bool a.isNone) w := Lib.run_eql_slice_nil w _ 9 a n c 0 0 Try.underlying35
theorem tx_one (L : List ByteArray) : (∀ u ∈ txV L, u.oneCell' = true) := by
  intro u hu
  obtain ⟨t, _, rfl⟩ := List.mem_map.1 hu
  rfl
set_option maxHeartbeats 400000 in
set_option maxRecDepth 100000 in
/-- slices.Clone of own texts. -/
theorem pclone_is {A : Option Addr} {cc : Nat} {L : List ByteArray} (h : TextsAt w A L) (hn : L.length ≤ 100000) (ha : A = none → L = []) :
    Calls Try.prog 33 #[.slice A L.length cc] w fun e w' => ∃ A' c', e = .returned (.slice A' L.length c') ∧ TextsAt w' A' L ∧ Below w.heap.size w w' ∧ w'.ownsRow w.heap.size 9 1 (.slice A' L.length c') L.length (txV L) := by
  rcases A with _ | ad
  · obtain rfl := ha rfl
    simp only [List.length_nil]
    go_enter Try.func33, Try.ntmps33
    go_wp2
    go_ret
    exact ⟨none, 0, rfl, h, Below.refl _ _, World.ownsRow_nil _ _ _ _⟩
  · obtain ⟨i0, hi, hz0, hz1, hz2⟩ := info_parts info_str4
    have hl : ∀ j u, (txV L)[j]? = some u → (w.alloc (.cells #[] 9)).cell? (ad.add j) = some u := fun j u hu => by
      rw [txV, List.getElem?_map] at hu
      cases hj : L[j]? with
      | none => rw [hj] at hu; cases hu
      | some t =>
        rw [hj] at hu
        obtain rfl := Option.some.inj hu
        obtain ⟨ad', e, hc⟩ := h (Nat.pos_of_ne_zero (fun e => by have := List.length_eq_zero_iff.1 e; subst this; simp at hj))
        obtain rfl := Option.some.inj e
        exact cell_alloc (hc j t hj)
    have HL := Lib.hid hl
    have hlen : (txV L).length = L.length * 1 := by simp [txV]
    have HLN := Lib.hid hlen
    obtain ⟨n, hnn⟩ : ∃ n, n = L.length := ⟨_, rfl⟩
    have HNN := Lib.hid hnn
    rw [← hnn] at HLN hn ⊢
    clear h hl ha hlen hnn
    go_enter Try.func33, Try.ntmps33
    go_wp2_with (at_builtin; refine wpList_append_own _ rfl _ _ 35 rfl w.heap.size 9 i0 _ 1 16 Try.underlying35 hi hz0 hz1 hz2 rfl (by omega) (.slice (some ⟨w.heap.size, 0, none⟩) 0 0) 0 [] rfl (World.ownsRow_lit w #[] 0 (Nat.le_refl _) (by unfold maxLen; omega) rfl) ad n cc (txV L) rfl HLN.out HL.out (tx_one L) (by unfold maxLen; omega) (by omega) (by simp) ?_; intro v1 w1 hown1 hg1 _)
    have hown2 : w1.ownsRow w.heap.size 9 1 v1 L.length (txV L) := by rw [← HNN.out]; simpa using hown1
    clear hown1
    obtain ⟨A', c', rfl, hl'⟩ := own_as hown2
    rw [← HNN.out]
    go_ret
    exact ⟨A', c', rfl, hl', ((Below.refl _ _).alloc (Nat.le_refl _) _).grown hg1 (by simp) (by simp [Value.ownBlock]), by rw [HNN.out]; exact hown2⟩
set_option maxHeartbeats 400000 in
set_option maxRecDepth 100000 in
theorem precords_is (h : PlgAt w base D B c K v) (hn : K.recs.length ≤ 100000) :
    Calls Try.prog 16 #[.pointer (some ⟨B, 0, none⟩)] w fun e w' => ∃ A' c', e = .returned (.slice A' K.recs.length c') ∧ TextsAt w' A' K.recs ∧ Below w.heap.size w w' ∧ w'.ownsRow w.heap.size 9 1 (.slice A' K.recs.length c') K.recs.length (txV K.recs) := by
  have c1 := cellH h.1 7
  simp at c1
  obtain ⟨A, cc, hv, hT⟩ := own_as h.2.2
  have hA : A = none → K.recs = [] := fun e => by
    subst e
    rcases h.2.2.2 with ⟨_, e⟩ | ⟨q, cap, cur, e, _⟩
    · exact List.length_eq_zero_iff.1 e
    · rw [hv] at e; simp at e
  subst hv
  clear h
  have CL := Lib.hid (pclone_is (cc := cc) hT hn hA)
  clear hT hA
  generalize K.recs = L at *
  go_enter Try.func16, Try.ntmps16
  go_wp2_with fail
  refine (CL.out).mono ?_
  rintro e w1 ⟨A', c', rfl, ht, hb, ho⟩
  have HO := Lib.hid ho
  clear ho
  go_wp2_with fail
  go_ret
  exact ⟨A', c', rfl, ht, hb, HO.out⟩
end
end Go.Proofs.Ytbdgmddlghhkjaa
