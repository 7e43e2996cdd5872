/-
  RunTimes over what the program's runs do. Conditions: what the library's variables hold; how the arguments lie.
-/
import Derived.Test.YtfjaibaidpbppaaGreatDoorRnD
import Derived.Test.YtfjaibaidpbppaaGreatDoorRnO
import Derived.Test.YtfjaibaidpbppaaGreatDoorLsR
namespace Go.Proofs.YtfjaibaidpbppaaGreatDoor
open Go.RowKit

theorem maxI_in {x y lo hi : Int} (h0 : lo ≤ x) (h1 : x ≤ hi) (h2 : y ≤ hi) : lo ≤ maxI x y ∧ maxI x y ≤ hi := by
  unfold maxI
  split <;> omega
/-- A number, taken as one without a sign, and what is left of it. -/
theorem leftR_is (r : Int) (k : Nat) (hk : 0 < k) (hk2 : k ≤ 1000000) : ∃ q : Nat, q < k ∧ wrap64 ((IntKind.u64.wrap r).tmod (k : Int)) = (q : Int) := by
  have h0 : 0 ≤ IntKind.u64.wrap r := by
    show (0 : Int) ≤ r % (2 ^ 64)
    exact Int.emod_nonneg _ (by decide)
  have h1 : 0 ≤ (IntKind.u64.wrap r).tmod (k : Int) := Int.tmod_nonneg _ h0
  have h2 : (IntKind.u64.wrap r).tmod (k : Int) < (k : Int) := Int.tmod_lt_of_pos _ (by omega)
  refine ⟨((IntKind.u64.wrap r).tmod (k : Int)).toNat, by omega, ?_⟩
  unfold wrap64
  omega
/-- The run that is played, after k calls. -/
structure TmS (A : RnAt) (w : World) (R k : Nat) (now : Int) (z : RunP) (M X : List Nat) (W : World) : Prop where
  ar : A W M X R z
  inn : RunIn (10200 + 700 * (k : Int)) (2 * (k : Int)) z
  now : 0 ≤ now ∧ now ≤ 10000
  low : Below w.heap.size w W
  new : ∀ i ∈ M, w.heap.size ≤ i
section
variable {A : RnAt} {w W V : World} {R k : Nat} {now : Int} {z : RunP} {M X : List Nat}
theorem TmS.of_ (h : TmS A w R k now z M X W) (hk : k ≤ 150) : RunOf z := h.inn.mono (by omega) (by omega)
theorem new_low {M M' : List Nat} {w W : World} (h : ∀ i ∈ M, w.heap.size ≤ i) (hn : New M M' W) (hl : w.heap.size ≤ W.heap.size) : ∀ i ∈ M', w.heap.size ≤ i := fun i hi => by
  rcases hn i hi with h1 | h1
  · exact h i h1
  · omega
/-- Settled, and then one call more. -/
theorem TmS.later (C : RunOk A) (h : TmS A w R k now z M X W) (hb : Below W.heap.size W V) : TmS A w R k now z M X V := ⟨C.later h.ar hb, h.inn, h.now, below_step h.low hb, h.new⟩
structure TmT (A : RnAt) (w : World) (R k : Nat) (now : Int) (z : RunP) (M X : List Nat) (W : World) : Prop where
  ar : A W M X R z
  inn : RunIn (10200 + 700 * (k : Int) + 2 * (k : Int) + 1) (2 * (k : Int) + 1) z
  now : 0 ≤ now ∧ now ≤ 10000
  low : Below w.heap.size w W
  new : ∀ i ∈ M, w.heap.size ≤ i
theorem TmS.settle (h : TmS A w R k now z M X W) {now' : Int} (hn : 0 ≤ now' ∧ now' ≤ 10000) (hw : RnW A W M X R (setR z now') V) : ∃ M' X', TmT A w R k now' (setR z now') M' X' V := by
  obtain ⟨M', X', h1, h2, h3, h4⟩ := hw
  exact ⟨M', X', h1, h.inn.set_ (by omega), hn, h2.low h.low h.new, new_low h.new h3 h.low.size⟩
theorem TmT.of_ (h : TmT A w R k now z M X W) (hk : k ≤ 150) : RunOf z := h.inn.mono (by omega) (by omega)
theorem TmT.later (C : RunOk A) (h : TmT A w R k now z M X W) (hb : Below W.heap.size W V) : TmT A w R k now z M X V := ⟨C.later h.ar hb, h.inn, h.now, below_step h.low hb, h.new⟩
theorem TmT.more (h : TmT A w R k now z M X W) (hk : k ≤ 150) {z' : RunP} (hz : RunIn (10200 + 700 * (k : Int) + 2 * (k : Int) + 1 + (2 * (k : Int) + 1) + 1) (2 * (k : Int) + 1 + 1) z') (hw : RnW A W M X R z' V) : ∃ M' X', TmS A w R (k + 1) now z' M' X' V := by
  obtain ⟨M', X', h1, h2, h3, h4⟩ := hw
  exact ⟨M', X', h1, hz.mono (by omega) (by omega), h.now, h2.low h.low h.new, new_low h.new h3 h.low.size⟩
theorem TmT.stay (h : TmT A w R k now z M X W) (hk : k ≤ 150) : TmS A w R (k + 1) now z M X W := ⟨h.ar, h.inn.mono (by omega) (by omega), h.now, h.low, h.new⟩
end
/-- The run, and two copies of it. -/
structure T3 (A : RnAt) (w : World) (R Q P : Nat) (z x y : RunP) (W : World) : Prop where
  at_ : ∃ M X M1 X1 M2 X2, A W M X R z ∧ A W M1 X1 Q x ∧ A W M2 X2 P y ∧ (∀ i ∈ M1, w.heap.size ≤ i) ∧ (∀ i ∈ M2, w.heap.size ≤ i) ∧
    (∀ i ∈ M1, i ∉ M ∧ i ∉ X) ∧ (∀ i ∈ M2, i ∉ M ∧ i ∉ X) ∧ (∀ i ∈ M1, i ∉ M2 ∧ i ∉ X2) ∧ (∀ i ∈ M2, i ∉ M1 ∧ i ∉ X1)
  low : Below w.heap.size w W
section
variable {A : RnAt} {w W V : World} {R Q P : Nat} {z x y : RunP}
theorem T3.later (C : RunOk A) (h : T3 A w R Q P z x y W) (hb : Below W.heap.size W V) : T3 A w R Q P z x y V := by
  obtain ⟨M, X, M1, X1, M2, X2, h1, h2, h3, r⟩ := h.at_
  exact ⟨⟨M, X, M1, X1, M2, X2, C.later h1 hb, C.later h2 hb, C.later h3 hb, r⟩, below_step h.low hb⟩
theorem T3.run (h : T3 A w R Q P z x y W) : ∃ M X, A W M X R z := by
  obtain ⟨M, X, _, _, _, _, h1, _⟩ := h.at_
  exact ⟨M, X, h1⟩
theorem T3.one (h : T3 A w R Q P z x y W) : ∃ M X, A W M X Q x := by
  obtain ⟨_, _, M, X, _, _, _, h1, _⟩ := h.at_
  exact ⟨M, X, h1⟩
theorem T3.two (h : T3 A w R Q P z x y W) : ∃ M X, A W M X P y := by
  obtain ⟨_, _, _, _, M, X, _, _, h1, _⟩ := h.at_
  exact ⟨M, X, h1⟩
theorem T3.swap (h : T3 A w R Q P z x y W) : T3 A w R P Q z y x W := by
  obtain ⟨M, X, M1, X1, M2, X2, h1, h2, h3, n1, n2, d1, d2, d3, d4⟩ := h.at_
  exact ⟨⟨M, X, M2, X2, M1, X1, h1, h3, h2, n2, n1, d2, d1, d4, d3⟩, h.low⟩
/-- Settling the first copy: what it does for whoever calls it. -/
theorem T3.settle (C : RunOk A) (h : T3 A w R Q P z x y W) (hx : RunOf x) {now : Int} (hn : milI now) :
    Calls Tryz.prog 11 #[ptrV Q, .int .i64 now] W fun e W' => e = .returned (.tuple #[]) ∧ T3 A w R Q P z (setR x now) y W' := by
  obtain ⟨M, X, M1, X1, M2, X2, h1, h2, h3, n1, n2, d1, d2, d3, d4⟩ := h.at_
  refine (C.settle h2 hx hn).mono ?_
  rintro e W' ⟨rfl, M', X', k1, k2, k3, k4⟩
  have l1 := C.low h1
  have l3 := C.low h3
  refine ⟨rfl, ⟨M, X, M', X', M2, X2, C.keep h1 k2 d1, k1, C.keep h3 k2 d3, new_low n1 k3 h.low.size, n2, fun i hi => ?_, d2, fun i hi => ?_, fun i hi => ⟨fun hm => ?_, fun hm => ?_⟩⟩, k2.low h.low n1⟩
  · rcases k3 i hi with a | a
    · exact d1 i a
    · exact ⟨fun hm => by have := l1 i (.inl hm); omega, fun hm => by have := l1 i (.inr hm); omega⟩
  · rcases k3 i hi with a | a
    · exact d3 i a
    · exact ⟨fun hm => by have := l3 i (.inl hm); omega, fun hm => by have := l3 i (.inr hm); omega⟩
  · rcases k3 i hm with a | a
    · exact (d4 i hi).1 a
    · have := l3 i (.inl hi); omega
  · rcases k4 i hm with a | a
    · exact (d4 i hi).2 a
    · have := l3 i (.inl hi); omega
theorem T3.status1 (C : RunOk A) (h : T3 A w R Q P z x y W) (hx : RunOf x) : Calls Tryz.prog 16 #[ptrV Q] W fun e W' => e = .returned (.int .i64 (statR x)) ∧ T3 A w R Q P z x y W' := by
  obtain ⟨M, X, h1⟩ := h.one
  exact (C.status h1 hx).mono (by rintro e W' ⟨rfl, hb⟩; exact ⟨rfl, h.later C hb⟩)
theorem T3.text1 (C : RunOk A) (h : T3 A w R Q P z x y W) (hx : RunOf x) (hV : VarsAt w) : Calls Tryz.prog 17 #[ptrV Q] W fun e W' => e = .returned (.string (textR x)) ∧ T3 A w R Q P z x y W' := by
  obtain ⟨M, X, h1⟩ := h.one
  exact (rtext_is C h1 hx (hV.later h.low)).mono (by rintro e W' ⟨rfl, hb⟩; exact ⟨rfl, h.later C hb⟩)
end
/-- Two copies are made. -/
theorem T3.made {A : RnAt} (C : RunOk A) {w W V U : World} {M X M1 X1 M2 X2 : List Nat} {R Q P : Nat} {z : RunP} (h : A W M X R z) (hl : Below w.heap.size w W) (h1 : A V M1 X1 Q z) (b1 : Below W.heap.size W V) (n1 : ∀ i ∈ M1, W.heap.size ≤ i) (_ : New X X1 W)
    (h2 : A U M2 X2 P z) (b2 : Below V.heap.size V U) (n2 : ∀ i ∈ M2, V.heap.size ≤ i) (x2 : New X X2 V) : T3 A w R Q P z z z U := by
  have l := C.low h
  have l1 := C.low h1
  have s1 := b1.size
  have s0 := hl.size
  refine ⟨⟨M, X, M1, X1, M2, X2, C.later (C.later h b1) b2, C.later h1 b2, h2, fun i hi => by have := n1 i hi; omega, fun i hi => by have := n2 i hi; omega, fun i hi => ⟨fun hm => ?_, fun hm => ?_⟩, fun i hi => ⟨fun hm => ?_, fun hm => ?_⟩, fun i hi => ⟨fun hm => ?_, fun hm => ?_⟩, fun i hi => ⟨fun hm => ?_, fun hm => ?_⟩⟩, below_step (below_step hl b1) b2⟩
  · have := n1 i hi; have := l i (.inl hm); omega
  · have := n1 i hi; have := l i (.inr hm); omega
  · have := n2 i hi; have := l i (.inl hm); omega
  · have := n2 i hi; have := l i (.inr hm); omega
  · have := n2 i hm; have := l1 i (.inl hi); omega
  · rcases x2 i hm with a | a
    · have := n1 i hi; have := l i (.inr a); omega
    · have := l1 i (.inl hi); omega
  · have := n2 i hi; have := l1 i (.inl hm); omega
  · have := n2 i hi; have := l1 i (.inr hm); omega
set_option maxHeartbeats 8000000 in
set_option maxRecDepth 100000 in
theorem runtimes_true {A : RnAt} (C : RunOk A) (K : AwkR) {w : World} (hV : VarsAt w) {n : ByteArray} {B : Option Addr} {us : List TkI} {c : Nat} (hA : TksI w B us) (hL : us.length ≤ maxLen) (hs : ∀ t ∈ us, 0 ≤ t.st ∧ t.st ≤ 65535)
    {D : Option Addr} {l d : Nat} {op : Nat → ROp} (hO : RopsAt w D l op) (hl : l ≤ 9223372036854775807) (hok : ∀ i, i < l → (op i).Ok) (a0 b0 : Int) :
    Calls Tryz.prog 3 #[.agg #[.string n, .slice B us.length c], .slice D l d, .int .i64 a0, .int .i64 b0] w fun e w' => e = .returned (.bool true) ∧ Below w.heap.size w w' := by
  have HC := Lib.hid C
  have HK := Lib.hid K
  have bb := (Below.refl w.heap.size w).alloc (Nat.le_refl _) (.cells #[.string n, .slice B us.length c] 24)
  have HX := Lib.hid (made_at w (.cells #[.string n, .slice B us.length c] 24))
  have HV0 := Lib.hid (hV.later bb)
  have HVW := Lib.hid hV
  have HA := Lib.hid (hA.later bb)
  have HO := Lib.hid (hO.later bb)
  have HOW := Lib.hid hO
  have HB0 := Lib.hid bb
  have HOK := Lib.hid hok
  have HSU := Lib.hid hs
  have hL' : us.length ≤ 9223372036854775807 := by unfold maxLen at hL; omega
  clear C K hV hA hO bb hok hs hL
  obtain ⟨a, ha, ea⟩ := leftR_is a0 200 (by omega) (by omega)
  obtain ⟨b, hb, eb⟩ := leftR_is b0 200 (by omega) (by omega)
  have EA := Lib.hid ea
  have EB := Lib.hid eb
  clear ea eb
  go_enter Tryz.func3, Tryz.ntmps3
  go_upto_region 2 with fail
  generalize hW0 : (w.alloc (.cells #[.string n, .slice B us.length c] 24)) = W0 at *
  clear hW0
  have ea := EA.out
  have eb := EB.out
  simp only [Int.cast_ofNat_Int] at ea eb
  rw [ea, eb]
  clear ea eb EA EB
  generalize IntKind.u64.wrap a0 = ua
  generalize IntKind.u64.wrap b0 = ub
  have x0 := cellH HX.out 0
  have x1 := cellH HX.out 1
  simp at x0 x1
  go_wp2_with fail
  refine (HK.out _ HV0.out).mono ?_
  rintro e w1 ⟨rfl, hb1⟩
  have HB1 := Lib.hid (below_step HB0.out hb1)
  have HX1 := Lib.hid (later_at hb1 HX.out)
  have HV1 := Lib.hid (HV0.out.later hb1)
  have HA1 := Lib.hid (HA.out.later hb1)
  have HO1 := Lib.hid (HO.out.later hb1)
  clear hb1 x0 x1 HX HV0 HA HO HB0
  have x0 := cellH HX1.out 0
  have x1 := cellH HX1.out 1
  simp at x0 x1
  go_wp2_with fail
  refine (reffew_is HA1.out hL').mono ?_
  rintro e w2 ⟨⟨q, rfl, hF⟩, hb2⟩
  have HB2 := Lib.hid (below_step HB1.out hb2)
  have HX2 := Lib.hid (later_at hb2 HX1.out)
  have HV2 := Lib.hid (HV1.out.later hb2)
  have HA2 := Lib.hid (HA1.out.later hb2)
  have HO2 := Lib.hid (HO1.out.later hb2)
  clear hb2 x0 x1 HX1 HV1 HA1 HO1 HB1
  cases q with
  | false =>
    clear hF
    go_wp2_with fail
    refine (HK.out _ HV2.out).mono ?_
    rintro e w9 ⟨rfl, hb9⟩
    have HB9 := Lib.hid (below_step HB2.out hb9)
    clear hb9
    go_wp2_with fail
    go_ret
    exact ⟨rfl, HB9.out⟩
  | true =>
  have HF := Lib.hid (hF rfl)
  clear hF
  go_wp2_with fail
  refine (rfew_is HO2.out hl).mono ?_
  rintro e w3 ⟨⟨q, rfl, hR⟩, hb3⟩
  have HB3 := Lib.hid (below_step HB2.out hb3)
  have HX3 := Lib.hid (later_at hb3 HX2.out)
  have HV3 := Lib.hid (HV2.out.later hb3)
  have HA3 := Lib.hid (HA2.out.later hb3)
  have HO3 := Lib.hid (HO2.out.later hb3)
  clear hb3 HX2 HV2 HA2 HO2 HB2
  cases q with
  | false =>
    clear hR
    go_wp2_with fail
    refine (HK.out _ HV3.out).mono ?_
    rintro e w9 ⟨rfl, hb9⟩
    have HB9 := Lib.hid (below_step HB3.out hb9)
    clear hb9
    go_wp2_with fail
    go_ret
    exact ⟨rfl, HB9.out⟩
  | true =>
  have HR := Lib.hid (hR rfl)
  clear hR
  have x0 := cellH HX3.out 0
  have x1 := cellH HX3.out 1
  simp at x0 x1
  go_wp2_with fail
  refine (refmay_only HA3.out HF.out HSU.out).mono ?_
  rintro e w4 ⟨⟨q, rfl, hM⟩, hb4⟩
  have HB4 := Lib.hid (below_step HB3.out hb4)
  have HX4 := Lib.hid (later_at hb4 HX3.out)
  have HV4 := Lib.hid (HV3.out.later hb4)
  have HO4 := Lib.hid (HO3.out.later hb4)
  cases q with
  | false =>
    clear hM hb4 x0 x1 HX3 HV3 HA3 HO3 HB3
    go_wp2_with fail
    refine (HK.out _ HV4.out).mono ?_
    rintro e w9 ⟨rfl, hb9⟩
    have HB9 := Lib.hid (below_step HB4.out hb9)
    clear hb9
    go_wp2_with fail
    go_ret
    exact ⟨rfl, HB9.out⟩
  | true =>
  obtain ⟨hmay, htk⟩ := hM rfl
  have HM := Lib.hid hmay
  have HT4 := Lib.hid (htk.later hb4)
  clear hmay htk hM hb4 x0 x1 HX3 HV3 HA3 HO3 HB3
  obtain ⟨ts, hts⟩ : ∃ ts, ts = us.map TkI.toP := ⟨_, rfl⟩
  have hlt : ts.length = us.length := by rw [hts]; simp
  have HLT := Lib.hid hlt
  rw [← hts] at HM HT4
  clear hts hlt
  have HNW := Lib.hid (show Calls Tryz.prog 10 #[.agg #[.string n, .slice B us.length c], .int .i64 0] w4 (fun e w' => ∃ R M X, e = .returned (ptrV R) ∧ A w' M X R (newR n ts 0) ∧ Below w4.heap.size w4 w' ∧ ∀ i ∈ M, w4.heap.size ≤ i) from by rw [← HLT.out]; exact HC.out.new HT4.out HM.out (by unfold milI; omega))
  have x0 := cellH HX4.out 0
  have x1 := cellH HX4.out 1
  simp at x0 x1
  go_wp2_with fail
  refine HNW.out.mono ?_
  rintro e w5 ⟨R, M, X, rfl, hr5, hb5, hm5⟩
  have HS5 := Lib.hid (show TmS A w R 0 0 (newR n ts 0) M X w5 from ⟨hr5, (RunIn.new_ (b := 10200) HM.out (by omega) (by omega)).mono (by omega) (by omega), by omega, below_step HB4.out hb5, fun i hi => Nat.le_trans HB4.out.size (hm5 i hi)⟩)
  have HO5 := Lib.hid (HO4.out.later hb5)
  clear hr5 hb5 hm5 x0 x1 HNW HT4 HV4 HX4 HO4 HF HSU HLT
  have hl150 : l ≤ 150 := HR.out.1
  go_wp2_with fail
  generalize newR n ts 0 = z0 at *
  go_loopw [10, 46] (fun nw i wr => ∃ (k : Nat) (now : Int) (z : RunP) (M X : List Nat), i = .int .i64 k ∧ nw = .int .i64 now ∧ k ≤ l ∧ Hid (TmS A w R k now z M X wr)) (fun _ i _ => l - (intOf i).toNat)
  case atStart => exact ⟨0, 0, z0, M, X, rfl, rfl, Nat.zero_le _, HS5⟩
  case round =>
    clear HS5
    obtain ⟨k, now, z, M, X, rfl, rfl, hk, HS⟩ := hrel
    by_cases hkl : k < l
    · have hk0 : (k : Int) < (l : Int) := by omega
      have hk1 : (0 : Int) ≤ (k : Int) := by omega
      obtain ⟨q, hq⟩ : ∃ q, q = op k := ⟨_, rfl⟩
      have HQ := Lib.hid (show ropOk q ∧ q.Ok from by rw [hq]; exact ⟨HR.out.2 k hkl, HOK.out k hkl⟩)
      obtain ⟨ad, e, hcell⟩ := HOW.out.later HS.out.low (by omega)
      subst e
      obtain ⟨x0, x1, x2, x3, x4, x5⟩ := hcell k hkl
      rw [← hq] at x0 x1 x2 x3 x4 x5
      have hal := (Below.refl wr.heap.size wr).alloc (Nat.le_refl _) (.cells (ropL q).toArray 33)
      have HS1 := Lib.hid (HS.out.later HC.out hal)
      have HG1 := Lib.hid (made_at wr (.cells (ropL q).toArray 33))
      have HML := Lib.hid (HC.out.low HS.out.ar)
      clear hq hcell hal HS
      unfold ropL at HS1 HG1
      go_upto_region 9 with fail
      generalize hW1 : wr.alloc _ = W1 at *
      clear hW1 x0 x1 x2 x3 x4 x5
      generalize wr.heap.size = g at *
      have y0 := cellH HG1.out 0
      have y1 := cellH HG1.out 1
      have y2 := cellH HG1.out 2
      have y3 := cellH HG1.out 3
      have y4 := cellH HG1.out 4
      have y5 := cellH HG1.out 5
      simp at y0 y1 y2 y3 y4 y5
      obtain ⟨nw, hnw⟩ : ∃ nw, maxI now q.n = nw := ⟨_, rfl⟩
      have hni : 0 ≤ nw ∧ nw ≤ 10000 := by rw [← hnw]; exact maxI_in HS1.out.now.1 HS1.out.now.2 HQ.out.1.2.1.2
      have HNI := Lib.hid hni
      clear hni
      go_wp2_with fail
      refine (HC.out.settle HS1.out.ar (HS1.out.of_ (by omega)) (by unfold milI; have := HNI.out; omega)).mono ?_
      rintro e W2 ⟨rfl, hw2⟩
      have HG2 := Lib.hid (show W2.heap[g]? = some (.cells #[.int .i64 q.k, .int .i64 q.n, .int .i64 q.a, .int .i64 q.b, .int .i64 q.c, .string q.s] 33 (0, 0)) from by
        obtain ⟨_, _, _, ho, _⟩ := hw2
        exact (ho.block g (Array.getElem?_eq_some_iff.1 HG1.out).1 (fun hm => by have := HML.out g (.inl hm); omega)).trans HG1.out)
      obtain ⟨M2, X2, hs2⟩ := HS1.out.settle HNI.out hw2
      have HS2 := Lib.hid hs2
      generalize setR z nw = z2 at *
      clear hw2 hs2 y0 y1 y2 y3 y4 y5 HS1 HG1 HML
      have y0 := cellH HG2.out 0
      have y1 := cellH HG2.out 1
      have y2 := cellH HG2.out 2
      have y3 := cellH HG2.out 3
      have y4 := cellH HG2.out 4
      have y5 := cellH HG2.out 5
      simp at y0 y1 y2 y3 y4 y5
      have hk150 : k ≤ 150 := by omega
      by_cases h2 : q.k = 2
      · have n2 : (q.k == 2) = true := beq_iff_eq.2 h2
        clear h2
        go_wp2_with fail
        refine (HC.out.take q.a HS2.out.ar (HS2.out.of_ hk150) (by unfold milI; have := HNI.out; omega) (by unfold milI; have := HQ.out.1.2.2.1; omega) (by unfold milI; have := HQ.out.1.2.2.2; omega) HQ.out.2.a.1 HQ.out.2.a.2).mono ?_
        rintro e W3 ⟨rfl, hw3⟩
        obtain ⟨M3, X3, hs3⟩ := HS2.out.more hk150 ((HS2.out.inn.take (by omega) (by have := HQ.out.1.2.2.1; omega) (by have := HQ.out.1.2.2.2; omega) HNI.out.1 (by have := HNI.out.2; omega)).mono (by omega) (by omega)) hw3
        have HS3 := Lib.hid hs3
        clear hw3 hs3
        go_wp2_with fail
        go_roundw
        case rel => exact ⟨k + 1, nw, _, M3, X3, by go_num, rfl, by omega, HS3⟩
        case measure => simp [intOf]; omega
      have n2 : (q.k == 2) = false := beq_eq_false_iff_ne.2 h2
      by_cases h3 : q.k = 3
      · have n3 : (q.k == 3) = true := beq_iff_eq.2 h3
        clear h2 h3
        go_wp2_with fail
        refine (HC.out.complete q.a HS2.out.ar (HS2.out.of_ hk150) (by unfold milI; have := HNI.out; omega) (by have := HQ.out.1.1; omega) HQ.out.2.a.1 HQ.out.2.a.2).mono ?_
        rintro e W3 ⟨rfl, hw3⟩
        obtain ⟨M3, X3, hs3⟩ := HS2.out.more hk150 ((HS2.out.inn.comp (by omega) HNI.out.1 (by have := HNI.out.2; omega)).mono (by omega) (by omega)) hw3
        have HS3 := Lib.hid hs3
        clear hw3 hs3
        go_wp2_with fail
        go_roundw
        case rel => exact ⟨k + 1, nw, _, M3, X3, by go_num, rfl, by omega, HS3⟩
        case measure => simp [intOf]; omega
      have n3 : (q.k == 3) = false := beq_eq_false_iff_ne.2 h3
      by_cases h4 : q.k = 4
      · have n4 : (q.k == 4) = true := beq_iff_eq.2 h4
        clear h2 h3 h4
        go_wp2_with fail
        refine (HC.out.miss q.a HS2.out.ar (HS2.out.of_ hk150) (by unfold milI; have := HNI.out; omega) HQ.out.2.a.1 HQ.out.2.a.2).mono ?_
        rintro e W3 ⟨rfl, hw3⟩
        obtain ⟨M3, X3, hs3⟩ := HS2.out.more hk150 (HS2.out.inn.miss (by omega) HNI.out.1 (by have := HNI.out.2; omega)) hw3
        have HS3 := Lib.hid hs3
        clear hw3 hs3
        go_wp2_with fail
        go_roundw
        case rel => exact ⟨k + 1, nw, _, M3, X3, by go_num, rfl, by omega, HS3⟩
        case measure => simp [intOf]; omega
      · have n4 : (q.k == 4) = false := beq_eq_false_iff_ne.2 h4
        clear h2 h3 h4
        have HS3 := Lib.hid (HS2.out.stay hk150)
        go_wp2_with fail
        go_roundw
        case rel => exact ⟨k + 1, nw, _, M2, X2, by go_num, rfl, by omega, HS3⟩
        case measure => simp [intOf]; omega
    · obtain rfl : k = l := by omega
      have hkn : ¬ (k : Int) < (k : Int) := by omega
      go_wp2_with fail
      have hl150 : k ≤ 150 := hl150
      have HZ := Lib.hid (HS.out.of_ hl150)
      have hnow0 := HS.out.now.1
      have hnow1 := HS.out.now.2
      have HIN := Lib.hid HS.out.inn
      clear hkn
      refine (HC.out.copy HS.out.ar HZ.out).mono ?_
      rintro e w6 ⟨Q, M1, X1, rfl, h1, b1, n1, x1⟩
      have HA6 := Lib.hid (HC.out.later HS.out.ar b1)
      have HH1 := Lib.hid (show A w6 M1 X1 Q z ∧ Below wr.heap.size wr w6 ∧ (∀ i ∈ M1, wr.heap.size ≤ i) ∧ New X X1 wr from ⟨h1, b1, n1, x1⟩)
      clear h1 b1 n1 x1
      go_wp2_with fail
      refine (HC.out.copy HA6.out HZ.out).mono ?_
      rintro e w7 ⟨P, M2, X2, rfl, h2, b2, n2, x2⟩
      have HT := Lib.hid (T3.made HC.out HS.out.ar HS.out.low HH1.out.1 HH1.out.2.1 HH1.out.2.2.1 HH1.out.2.2.2 h2 b2 n2 x2)
      clear h2 b2 n2 x2 HH1 HA6 HS
      obtain ⟨z1, hz1⟩ : ∃ z1, z1 = setR z (now + a) := ⟨_, rfl⟩
      obtain ⟨z2, hz2⟩ : ∃ z2, z2 = setR z1 (now + a + b) := ⟨_, rfl⟩
      obtain ⟨z3, hz3⟩ : ∃ z3, z3 = setR z (now + a + b) := ⟨_, rfl⟩
      have HZ1 := Lib.hid (show RunOf z1 from by rw [hz1]; exact (HIN.out.set_ (by omega)).mono (by omega) (by omega))
      have HZ2 := Lib.hid (show RunOf z2 from by rw [hz2, hz1]; exact ((HIN.out.set_ (by omega)).set_ (by omega)).mono (by omega) (by omega))
      have HZ3 := Lib.hid (show RunOf z3 from by rw [hz3]; exact (HIN.out.set_ (by omega)).mono (by omega) (by omega))
      have HEQ := Lib.hid (show (statR z1 = 0 → z2 = z3) ∧ (statR z1 ≠ 0 → statR z2 = statR z3) from by
        rw [hz2, hz3, hz1]
        exact ⟨fun h => set_later (by omega) h, fun h => set_ended HIN.out.len.symm (by omega) h⟩)
      have E1 := Lib.hid hz1
      have E2 := Lib.hid hz2
      have E3 := Lib.hid hz3
      clear hz1 hz2 hz3
      go_wp2_with fail
      refine (HT.out.settle HC.out HZ.out (now := now + a) (by unfold milI; omega)).mono ?_
      rintro e w8 ⟨rfl, ht8⟩
      rw [← E1.out] at ht8
      have HT8 := Lib.hid ht8
      clear ht8 HT
      go_wp2_with fail
      refine (HT8.out.status1 HC.out HZ1.out).mono ?_
      rintro e w9 ⟨rfl, ht9⟩
      have HT9 := Lib.hid ht9
      clear ht9 HT8
      obtain ⟨eb, heb⟩ : ∃ eb, (statR z1 != 0) = eb := ⟨_, rfl⟩
      have HEB := Lib.hid heb
      go_wp2_with fail
      refine (HT9.out.settle HC.out HZ1.out (now := now + a + b) (by unfold milI; omega)).mono ?_
      rintro e w10 ⟨rfl, ht10⟩
      rw [← E2.out] at ht10
      have HT10 := Lib.hid ht10
      clear ht10 HT9
      go_wp2_with fail
      refine (HT10.out.swap.settle HC.out HZ.out (now := now + a + b) (by unfold milI; omega)).mono ?_
      rintro e w11 ⟨rfl, ht11⟩
      rw [← E3.out] at ht11
      have HT11 := Lib.hid ht11.swap
      clear ht11 HT10
      have hzz : ((textR z).toList == (textR z).toList) = true := by simp
      have hz3 : ((textR z3).toList == (textR z3).toList) = true := by simp
      cases eb with
      | true =>
        have hst : statR z2 = statR z3 := HEQ.out.2 (by have := HEB.out; simpa using this)
        have HST := Lib.hid hst
        clear hst
        go_wp2_with fail
        refine (HT11.out.status1 HC.out HZ2.out).mono ?_
        rintro e w12 ⟨rfl, ht12⟩
        have HT12 := Lib.hid ht12.swap
        clear ht12 HT11
        rw [HST.out]
        go_wp2_with fail
        refine (HT12.out.status1 HC.out HZ3.out).mono ?_
        rintro e w13 ⟨rfl, ht13⟩
        have HT13 := Lib.hid ht13
        clear ht13 HT12
        go_wp2_with fail
        obtain ⟨MR, XR, hrun⟩ := HT13.out.run
        have HRUN := Lib.hid hrun
        clear hrun
        refine (HC.out.copy HRUN.out HZ.out).mono ?_
        rintro e w20 ⟨Q2, M9, X9, rfl, h9, b9, _, _⟩
        have HA9 := Lib.hid h9
        have HRUN9 := Lib.hid (HC.out.later HRUN.out b9)
        have HB9 := Lib.hid (below_step HT13.out.low b9)
        clear h9 b9 HRUN
        go_wp2_with fail
        refine (rtext_is HC.out HA9.out HZ.out (HVW.out.later HB9.out)).mono ?_
        rintro e w21 ⟨rfl, b21⟩
        have HRUN21 := Lib.hid (HC.out.later HRUN9.out b21)
        have HB21 := Lib.hid (below_step HB9.out b21)
        clear b21 HA9 HRUN9
        go_wp2_with fail
        refine (rtext_is HC.out HRUN21.out HZ.out (HVW.out.later HB21.out)).mono ?_
        rintro e w22 ⟨rfl, b22⟩
        have HB22 := Lib.hid (below_step HB21.out b22)
        clear b22
        go_wp2_with fail
        go_ret
        exact ⟨by first | rfl | simp, HB22.out⟩
      | false =>
        have hst : z2 = z3 := HEQ.out.1 (by have := HEB.out; simpa using this)
        have HST := Lib.hid hst
        clear hst
        go_wp2_with fail
        refine (HT11.out.text1 HC.out HZ2.out HVW.out).mono ?_
        rintro e w12 ⟨rfl, ht12⟩
        have HT12 := Lib.hid ht12.swap
        clear ht12 HT11
        rw [HST.out]
        go_wp2_with fail
        refine (HT12.out.text1 HC.out HZ3.out HVW.out).mono ?_
        rintro e w13 ⟨rfl, ht13⟩
        have HT13 := Lib.hid ht13
        clear ht13 HT12
        go_wp2_with fail
        obtain ⟨MR, XR, hrun⟩ := HT13.out.run
        have HRUN := Lib.hid hrun
        clear hrun
        refine (HC.out.copy HRUN.out HZ.out).mono ?_
        rintro e w20 ⟨Q2, M9, X9, rfl, h9, b9, _, _⟩
        have HA9 := Lib.hid h9
        have HRUN9 := Lib.hid (HC.out.later HRUN.out b9)
        have HB9 := Lib.hid (below_step HT13.out.low b9)
        clear h9 b9 HRUN
        go_wp2_with fail
        refine (rtext_is HC.out HA9.out HZ.out (HVW.out.later HB9.out)).mono ?_
        rintro e w21 ⟨rfl, b21⟩
        have HRUN21 := Lib.hid (HC.out.later HRUN9.out b21)
        have HB21 := Lib.hid (below_step HB9.out b21)
        clear b21 HA9 HRUN9
        go_wp2_with fail
        refine (rtext_is HC.out HRUN21.out HZ.out (HVW.out.later HB21.out)).mono ?_
        rintro e w22 ⟨rfl, b22⟩
        have HB22 := Lib.hid (below_step HB21.out b22)
        clear b22
        go_wp2_with fail
        go_ret
        exact ⟨by first | rfl | simp, HB22.out⟩
end Go.Proofs.YtfjaibaidpbppaaGreatDoor
