/-
  What the document's Open (package lockageref05) answers, over both halves' sectors: the log that stands there. No conditions but how the sectors lie, and sizes.
-/
import Derived.Test.YtbdgmddlghhkjaaPlgNx
import Derived.Maps.AppendAt
namespace Go.Proofs.Ytbdgmddlghhkjaa
open Go.RowKit

section
variable {rd rd' : Int → ByteArray} {b half g no a nx : Int} {s : ByteArray} {l : List ByteArray}
theorem stands_shift (h : ∀ i, 0 ≤ i → i < half → rd' i = rd (b + i)) (ha : 0 ≤ a) : Stands rd' a half g no s ↔ Stands rd (b + a) (b + half) g no s := by
  constructor
  · rintro ⟨st, h1, h2, h3, h4, h5⟩
    refine ⟨st, h1, h2, h3, by omega, fun i hi => ?_⟩
    rw [show b + a + (i : Int) = b + (a + i) by omega, ← h _ (by omega) (by omega)]
    exact h5 i hi
  · rintro ⟨st, h1, h2, h3, h4, h5⟩
    refine ⟨st, h1, h2, h3, by omega, fun i hi => ?_⟩
    rw [h _ (by omega) (by omega), show b + (a + (i : Int)) = b + a + i by omega]
    exact h5 i hi
theorem recs_shift (h : ∀ i, 0 ≤ i → i < half → rd' i = rd (b + i)) (k : RecsStand rd' half g a no l nx) (ha : 0 ≤ a) : RecsStand rd (b + half) g (b + a) no l (b + nx) := by
  induction k with
  | nil hn => exact .nil (fun ⟨t, ht⟩ => hn ⟨t, (stands_shift h ha).2 ht⟩)
  | @cons a no nx s l h1 h2 ih =>
    have := ih (by omega)
    refine .cons ((stands_shift h ha).1 h1) ?_
    rw [show b + a + (cntN s.size : Int) = b + (a + cntN s.size) by omega]
    exact this
end

/-- What is had when k halves have been looked at. -/
def OpR (rd : Int → ByteArray) (half : Int) (k : Nat) (o : LogV) : Prop := (k = 0 ∧ o = noLog) ∨ (k = 1 ∧ HalfR rd 0 half 1 noLog o) ∨ (k = 2 ∧ ∃ o1, HalfR rd 0 half 1 noLog o1 ∧ HalfR rd half half 0 o1 o)
theorem OpR.one {rd : Int → ByteArray} {half : Int} {o o' : LogV} (h : OpR rd half 0 o) (k : HalfR rd 0 half 1 o o') : OpR rd half 1 o' := by
  rcases h with ⟨_, rfl⟩ | ⟨h, _⟩ | ⟨h, _⟩
  · exact .inr (.inl ⟨rfl, k⟩)
  · cases h
  · cases h
theorem OpR.two {rd : Int → ByteArray} {half : Int} {o o' : LogV} (h : OpR rd half 1 o) (k : HalfR rd half half 0 o o') : OpR rd half 2 o' := by
  rcases h with ⟨h, _⟩ | ⟨_, h⟩ | ⟨h, _⟩
  · cases h
  · exact .inr (.inr ⟨rfl, o, h, k⟩)
  · cases h
theorem OpR.ends {rd : Int → ByteArray} {half : Int} {o : LogV} (h : OpR rd half 2 o) : ∃ o1, HalfR rd 0 half 1 noLog o1 ∧ HalfR rd half half 0 o1 o := by
  rcases h with ⟨h, _⟩ | ⟨h, _⟩ | ⟨_, h⟩
  · cases h
  · cases h
  · exact h

section
variable {w : World} {A : Option Addr} {L : List ByteArray}
theorem rdL_first {H : Nat} (i : Int) (h0 : 0 ≤ i) (h1 : i < H) : rdL (L.take H) i = rdL L (0 + i) := by
  unfold rdL
  rw [Int.zero_add, List.getElem?_take_of_lt (by omega)]
theorem rdL_second {H : Nat} (i : Int) (h0 : 0 ≤ i) (h1 : i < H) : rdL ((L.drop H).take H) i = rdL L ((H : Int) + i) := by
  unfold rdL
  rw [List.getElem?_take_of_lt (by omega), List.getElem?_drop, show ((H : Int) + i).toNat = H + i.toNat by omega]
theorem texts_take {ad : Addr} (h : TextsAt w (some ad) L) (H : Nat) : TextsAt w (some ad) (L.take H) := fun hn => by
  obtain ⟨ad', e, hc⟩ := h (by rw [List.length_take] at hn; omega)
  refine ⟨ad', e, fun i s hi => hc i s ?_⟩
  have := (List.getElem?_eq_some_iff.1 hi).1
  rw [List.length_take] at this
  rw [← List.getElem?_take_of_lt (show i < H by omega)]
  exact hi
theorem texts_drop {ad : Addr} (h : TextsAt w (some ad) L) (H : Nat) : TextsAt w (some (ad.add H)) (L.drop H) := fun hn => by
  obtain ⟨ad', e, hc⟩ := h (by rw [List.length_drop] at hn; omega)
  obtain rfl := Option.some.inj e
  refine ⟨_, rfl, fun i s hi => ?_⟩
  rw [List.getElem?_drop] at hi
  rw [Go.Deep.add_add]
  exact hc _ s hi

/-- The log that is had, in memory. -/
structure OpW (w : World) (half : Int) (R : Nat) (o : LogV) (u : Value) (W : World) : Prop where
  at_ : W.heap[R]? = some (.cells #[.int .i64 o.gen, .int .i64 half, .string o.bs, u, .int .i64 o.at_] 37 (0, 0))
  own : W.ownsRow w.heap.size 9 1 u o.recs.length (txV o.recs)
  rb : w.heap.size ≤ R
  low : Below w.heap.size w W
theorem OpW.later {half : Int} {R : Nat} {o : LogV} {u : Value} {W W' : World} (h : OpW w half R o u W) (hb : Below W.heap.size W W') : OpW w half R o u W' :=
  ⟨later_at hb h.at_, own_agree h.own (fun q _ hq => hb.block q hq), h.rb, below_step h.low hb⟩
theorem OpW.ne {half : Int} {R : Nat} {o : LogV} {u : Value} {W : World} (h : OpW w half R o u W) : u.ownBlock ≠ some R := fun e => by
  obtain ⟨_, cs, h2⟩ := own_type h.own e
  rw [h.at_] at h2
  injection h2 with h2
  injection h2 with _ ht
  exact absurd ht (by decide)

set_option maxHeartbeats 2000000 in
set_option maxRecDepth 100000 in
theorem refopen_is {ad : Addr} {c : Nat} (hT : TextsAt w (some ad) L) (H N : Nat) (hN : N = H + H) (hL : L.length = N) (hc : N ≤ c) (h1 : 1 ≤ H) (h2 : H ≤ 2000) :
    Calls Try.prog 18 #[.slice (some ad) N c, .int .i64 H] w fun e w' => ∃ R u o, e = .returned (.pointer (some ⟨R, 0, none⟩)) ∧ OpR (rdL L) H 2 o ∧ OpW w H R o u w' := by
  have HT := Lib.hid hT
  have HLL := Lib.hid hL
  obtain ⟨i0, hi0, q0, q1, q2⟩ := info_parts info_str4
  have RD := Lib.hid (fun (s : ByteArray) (W : World) => refread_is (fun p h hf w => refprint_is p h hf w) s W)
  have HZ0 := Lib.hid (show OpW w H w.heap.size noLog (.slice none 0 0) (w.alloc (.cells #[.int .i64 0, .int .i64 H, .string ⟨#[]⟩, .slice none 0 0, .int .i64 0] 37)) from
    ⟨made_at _ _, World.ownsRow_nil _ _ _ _, Nat.le_refl _, (Below.refl _ _).alloc (Nat.le_refl _) _⟩)
  have HNN := Lib.hid hN
  have hc2 : H + H ≤ c := by omega
  clear hT hL hN hc
  go_enter Try.func18, Try.ntmps18
  go_wp2_with fail
  go_loopw [5, 6] (fun a5 a6 wr => ∃ (k R : Nat) (o : LogV) (u : Value), k ≤ 2 ∧ a6 = .int .i64 k ∧ a5 = .pointer (some ⟨R, 0, none⟩) ∧ OpR (rdL L) H k o ∧ OpW w H R o u wr) (fun _ i _ => 2 - (intOf i).toNat)
  case atStart => exact ⟨0, w.heap.size, noLog, .slice none 0 0, by omega, rfl, rfl, .inl ⟨rfl, rfl⟩, HZ0.out⟩
  case round =>
    obtain ⟨k, R, o, u, hk, rfl, rfl, ho, hG⟩ := hrel
    clear HZ0
    have HG := Lib.hid hG
    have HO := Lib.hid ho
    clear hG ho
    obtain rfl | rfl | rfl : k = 0 ∨ k = 1 ∨ k = 2 := by omega
    · have HP := Lib.hid (fun (W : World) (hW : Below w.heap.size w W) => texts_later hW (texts_take HT.out H))
      have HRD := Lib.hid (fun (i : Int) (h0 : 0 ≤ i) (h1 : i < (H : Int)) => (rdL_first (L := L) i h0 h1))
      obtain ⟨Lp, hLp⟩ : ∃ Lp, Lp = L.take H := ⟨_, rfl⟩
      have hpl : Lp.length = H := by rw [hLp, List.length_take, HLL.out, HNN.out]; omega
      rw [← hLp] at HP HRD
      clear hLp
      have HPL := Lib.hid hpl
      clear hpl
      obtain ⟨t0, ht0⟩ : ∃ t, Lp[0]? = some t := ⟨_, List.getElem?_eq_getElem (by have := HPL.out; omega)⟩
      have HT0 := Lib.hid (show rdL Lp 0 = t0 by unfold rdL; rw [show (0 : Int).toNat = 0 from rfl, ht0]; rfl)
      have x0 := (HP.out _ HG.out.low (by have := HPL.out; omega)).elim (fun ad' h => by have e := Option.some.inj h.1; have := h.2 0 t0 ht0; rw [← e] at this; exact this)
      clear ht0
      have R1 := Lib.hid (RD.out t0)
      obtain ⟨p, hp⟩ : ∃ p, p = (readP t0).getD noPc := ⟨_, rfl⟩
      rw [← hp] at R1
      have HPp := Lib.hid hp
      clear hp
      have x0 : wr.cell? ad = some (.string t0) := x0
      have hHH : H + H - H = H := by omega
      go_wp2_with fail
      refine (R1.out _).mono ?_
      rintro e w3 ⟨rfl, hb3⟩
      have HG3 := Lib.hid ((HG.out.later hb3).later ((Below.refl _ _).alloc (Nat.le_refl _) (.cells #[.int .u64 p.stamp, .int .i64 p.gen, .int .i64 p.no, .int .i64 p.idx, .int .i64 p.tot, .string p.data] 75)))
      have HP3 := Lib.hid (made_at w3 (.cells #[.int .u64 p.stamp, .int .i64 p.gen, .int .i64 p.no, .int .i64 p.idx, .int .i64 p.tot, .string p.data] 75))
      clear hb3 HG R1 x0
      go_upto_region 7 with fail
      generalize w3.alloc (.cells #[.int .u64 p.stamp, .int .i64 p.gen, .int .i64 p.no, .int .i64 p.idx, .int .i64 p.tot, .string p.data] 75) = w4 at *
      generalize w3.heap.size = g at *
      have hpg : 0 ≤ p.gen ∧ p.gen ≤ 2147483647 := by
        rw [HPp.out]
        cases hr : readP t0 with
        | none => exact ⟨by decide, by decide⟩
        | some x => have := (readP_ok hr).1; have h1 := this.g0; have h2 := this.g1; simp only [Option.getD_some]; omega
      obtain ⟨hpg0, hpg1⟩ := hpg
      have z1 := cellH HP3.out 1
      have y0 := cellH HG3.out.at_ 0
      simp at z1 y0
      have HST := Lib.hid (show ∀ g' s', Stands (rdL L) 0 (0 + (H : Int)) g' 0 s' → ∃ q, readP t0 = some q ∧ q.gen = g' from fun g' s' hs => by
        obtain ⟨q, hq, hq1, _⟩ := stands_first hs
        have h3 := HRD.out 0 (Int.le_refl _) (by omega)
        rw [HT0.out, show 0 + (0 : Int) = 0 by omega] at h3
        rw [← h3] at hq
        exact ⟨q, hq, hq1⟩)
      have hp := HPp.out
      clear HPp
      cases hrp : readP t0 with
      | none =>
        clear hp
        have hno : ∀ g' s', 1 ≤ g' → g' % 2 = 1 → o.gen < g' → ¬ Stands (rdL L) 0 (0 + (H : Int)) g' 0 s' := by
          intro g' s' g1 g2 g3 hs
          obtain ⟨q, hq, hq1⟩ := HST.out g' s' hs
          rw [hrp] at hq
          cases hq
        have HH := Lib.hid (show HalfR (rdL L) 0 H 1 o o from .inr ⟨hno, rfl⟩)
        clear hno
        have HG4 := Lib.hid (HG3.out.later (Below.refl _ _).drew)
        refine wp_region_kept (AtW w4.drew) (by kernel_rfl) (by kernel_rfl) ⟨rfl⟩ ?_
        intro hne
        have f1 : ∀ x : HeldW (AtW w4.drew), x.w.cell? ⟨g, 1, none⟩ = some (.int .i64 p.gen) := fun x => by rw [x.ok.eq]; exact z1
        have f0 : ∀ x : HeldW (AtW w4.drew), x.w.cell? ⟨R, 0, none⟩ = some (.int .i64 o.gen) := fun x => by rw [x.ok.eq]; exact y0
        repeat (go_big_quiet_step (fail))
        refine wpQuiet_nil ?_
        rintro W1 ⟨⟨_, hF⟩, rfl⟩
        obtain rfl := hF.eq
        clear f0 f1 hne hF z1 y0
        go_wp2_with fail
        go_roundw
        case rel => exact ⟨1, R, o, u, by omega, by go_num, rfl, HO.out.one HH.out, HG4.out⟩
        case measure => simp [intOf]
      | some p' =>
        rw [hrp] at hp
        simp only [Option.getD_some] at hp
        subst hp
        have HPQ := Lib.hid (show ∀ q, readP t0 = some q → p = q from fun q hq => by rw [hrp] at hq; exact Option.some.inj hq)
        clear hrp
        have htm : Int.tmod p.gen 2 = p.gen % 2 := by rw [Int.tmod_eq_emod_of_nonneg hpg0]
        by_cases h1g : p.gen < 1
        · have hno : ∀ g' s', 1 ≤ g' → g' % 2 = 1 → o.gen < g' → ¬ Stands (rdL L) 0 (0 + (H : Int)) g' 0 s' := by
            intro g' s' g1 g2 g3 hs
            obtain ⟨q, hq, hq1⟩ := HST.out g' s' hs
            have := HPQ.out q hq
            subst this
            omega
          have HH := Lib.hid (show HalfR (rdL L) 0 H 1 o o from .inr ⟨hno, rfl⟩)
          clear hno
          have HG4 := Lib.hid (HG3.out.later (Below.refl _ _).drew)
          refine wp_region_kept (AtW w4.drew) (by kernel_rfl) (by kernel_rfl) ⟨rfl⟩ ?_
          intro hne
          have f1 : ∀ x : HeldW (AtW w4.drew), x.w.cell? ⟨g, 1, none⟩ = some (.int .i64 p.gen) := fun x => by rw [x.ok.eq]; exact z1
          have f0 : ∀ x : HeldW (AtW w4.drew), x.w.cell? ⟨R, 0, none⟩ = some (.int .i64 o.gen) := fun x => by rw [x.ok.eq]; exact y0
          repeat (go_big_quiet_step (fail))
          refine wpQuiet_nil ?_
          rintro W1 ⟨⟨_, hF⟩, rfl⟩
          obtain rfl := hF.eq
          clear f0 f1 hne hF z1 y0
          go_wp2_with fail
          go_roundw
          case rel => exact ⟨1, R, o, u, by omega, by go_num, rfl, HO.out.one HH.out, HG4.out⟩
          case measure => simp [intOf]
        by_cases h2g : p.gen % 2 = 0
        · have hno : ∀ g' s', 1 ≤ g' → g' % 2 = 1 → o.gen < g' → ¬ Stands (rdL L) 0 (0 + (H : Int)) g' 0 s' := by
            intro g' s' g1 g2 g3 hs
            obtain ⟨q, hq, hq1⟩ := HST.out g' s' hs
            have := HPQ.out q hq
            subst this
            omega
          have HH := Lib.hid (show HalfR (rdL L) 0 H 1 o o from .inr ⟨hno, rfl⟩)
          clear hno
          have HG4 := Lib.hid (HG3.out.later (Below.refl _ _).drew)
          refine wp_region_kept (AtW w4.drew) (by kernel_rfl) (by kernel_rfl) ⟨rfl⟩ ?_
          intro hne
          have f1 : ∀ x : HeldW (AtW w4.drew), x.w.cell? ⟨g, 1, none⟩ = some (.int .i64 p.gen) := fun x => by rw [x.ok.eq]; exact z1
          have f0 : ∀ x : HeldW (AtW w4.drew), x.w.cell? ⟨R, 0, none⟩ = some (.int .i64 o.gen) := fun x => by rw [x.ok.eq]; exact y0
          repeat (go_big_quiet_step (fail))
          refine wpQuiet_nil ?_
          rintro W1 ⟨⟨_, hF⟩, rfl⟩
          obtain rfl := hF.eq
          clear f0 f1 hne hF z1 y0
          go_wp2_with fail
          go_roundw
          case rel => exact ⟨1, R, o, u, by omega, by go_num, rfl, HO.out.one HH.out, HG4.out⟩
          case measure => simp [intOf]
        have h2e : p.gen % 2 = 1 := by omega
        clear h2g
        by_cases h3g : p.gen ≤ o.gen
        · have hno : ∀ g' s', 1 ≤ g' → g' % 2 = 1 → o.gen < g' → ¬ Stands (rdL L) 0 (0 + (H : Int)) g' 0 s' := by
            intro g' s' g1 g2 g3 hs
            obtain ⟨q, hq, hq1⟩ := HST.out g' s' hs
            have := HPQ.out q hq
            subst this
            omega
          have HH := Lib.hid (show HalfR (rdL L) 0 H 1 o o from .inr ⟨hno, rfl⟩)
          clear hno
          have HG4 := Lib.hid (HG3.out.later (Below.refl _ _).drew)
          refine wp_region_kept (AtW w4.drew) (by kernel_rfl) (by kernel_rfl) ⟨rfl⟩ ?_
          intro hne
          have f1 : ∀ x : HeldW (AtW w4.drew), x.w.cell? ⟨g, 1, none⟩ = some (.int .i64 p.gen) := fun x => by rw [x.ok.eq]; exact z1
          have f0 : ∀ x : HeldW (AtW w4.drew), x.w.cell? ⟨R, 0, none⟩ = some (.int .i64 o.gen) := fun x => by rw [x.ok.eq]; exact y0
          repeat (go_big_quiet_step (fail))
          refine wpQuiet_nil ?_
          rintro W1 ⟨⟨_, hF⟩, rfl⟩
          obtain rfl := hF.eq
          clear f0 f1 hne hF z1 y0
          go_wp2_with fail
          go_roundw
          case rel => exact ⟨1, R, o, u, by omega, by go_num, rfl, HO.out.one HH.out, HG4.out⟩
          case measure => simp [intOf]
        have HPAR := Lib.hid (show p.gen % 2 = 1 by omega)
        have HGT := Lib.hid (show o.gen < p.gen by omega)
        refine wp_region_kept (AtW w4.drew) (by kernel_rfl) (by kernel_rfl) ⟨rfl⟩ ?_
        intro hne
        have f1 : ∀ x : HeldW (AtW w4.drew), x.w.cell? ⟨g, 1, none⟩ = some (.int .i64 p.gen) := fun x => by rw [x.ok.eq]; exact z1
        have f0 : ∀ x : HeldW (AtW w4.drew), x.w.cell? ⟨R, 0, none⟩ = some (.int .i64 o.gen) := fun x => by rw [x.ok.eq]; exact y0
        repeat (go_big_quiet_step (fail))
        refine wpQuiet_nil ?_
        rintro W1 ⟨⟨_, hF⟩, rfl⟩
        obtain rfl := hF.eq
        clear f0 f1 hne hF z1 y0
        have HG4 := Lib.hid (HG3.out.later (Below.refl _ _).drew)
        have HP4 := Lib.hid (show w4.drew.heap[g]? = some (.cells #[.int .u64 p.stamp, .int .i64 p.gen, .int .i64 p.no, .int .i64 p.idx, .int .i64 p.tot, .string p.data] 75 (0, 0)) from HP3.out)
        clear HG3 HP3
        generalize w4.drew = w5 at *
        have NX := Lib.hid (fun (W : World) (hW : Below w.heap.size w W) (a : Nat) (no : Int) (ha : a ≤ 100000) => refnext_is (c := c) (HP.out W hW) a p.gen no ha (by rw [HPL.out]; omega))
        rw [HPL.out] at NX
        have N0 := Lib.hid (NX.out _ HG4.out.low 0 0 (by omega))
        have z1 := cellH HP4.out 1
        simp at z1
        cases hn : nextP (rdL Lp) ((0 : Nat) : Int) (H : Int) p.gen 0 with
        | none =>
          rw [hn] at N0
          change Hid (Calls Try.prog _ #[_, .int .i64 0, _, _, _] _ fun e W' => e = .returned (.tuple #[.string ⟨#[]⟩, .int .i64 0, .bool false]) ∧ _) at N0
          have hno : ∀ g' s', 1 ≤ g' → g' % 2 = 1 → o.gen < g' → ¬ Stands (rdL L) 0 (0 + (H : Int)) g' 0 s' := by
            intro g' s' g1 g2 g3 hs
            obtain ⟨q, hq, hq1⟩ := HST.out g' s' hs
            have := HPQ.out q hq
            subst this
            rw [← hq1] at hs
            have h4 := (stands_shift (fun i h0 h1 => HRD.out i h0 h1) (Int.le_refl 0)).2 (show Stands (rdL L) (0 + 0) (0 + (H : Int)) p.gen 0 s' by rw [Int.add_zero]; exact hs)
            have h5 := next_stands h4
            rw [show ((0 : Nat) : Int) = 0 from rfl, h5] at hn
            cases hn
          have HH := Lib.hid (show HalfR (rdL L) 0 H 1 o o from .inr ⟨hno, rfl⟩)
          clear hn hno
          go_wp2_with fail
          refine (N0.out).mono ?_
          rintro e w6 ⟨rfl, hb6⟩
          have HG6 := Lib.hid (HG4.out.later hb6)
          clear hb6 HG4 HP4 z1 N0
          go_wp2_with fail
          go_roundw
          case rel => exact ⟨1, R, o, u, by omega, by go_num, rfl, HO.out.one HH.out, HG6.out⟩
          case measure => simp [intOf]
        | some r =>
          obtain ⟨bs, nxi⟩ := r
          obtain ⟨hst, hnx⟩ := next_iff.1 hn
          obtain ⟨nx, hnxn⟩ : ∃ nx : Nat, nx = cntN bs.size := ⟨_, rfl⟩
          have hnxi : nxi = (nx : Int) := by rw [hnx, hnxn]; simp
          subst hnxi
          rw [hn] at N0
          change Hid (Calls Try.prog _ #[_, .int .i64 0, _, _, _] _ fun e W' => e = .returned (.tuple #[.string bs, .int .i64 nx, .bool true]) ∧ _) at N0
          have hnx1 : 1 ≤ nx ∧ nx ≤ H := by
            obtain ⟨_, _, _, _, h4, _⟩ := hst
            have := cnt_pos bs.size
            rw [← hnxn] at h4 this
            simp at h4
            omega
          have HSTD := Lib.hid hst
          have HNX := Lib.hid hnxn
          clear hst hnx hnxn hn
          go_wp2_with fail
          refine (N0.out).mono ?_
          rintro e w6 ⟨rfl, hb6⟩
          have HP6 := Lib.hid (later_at hb6 HP4.out)
          have HG6 := Lib.hid (show OpW w H w6.heap.size ⟨p.gen, bs, [], nx⟩ (.slice none 0 0) (w6.alloc (.cells #[.int .i64 p.gen, .int .i64 H, .string bs, .slice none 0 0, .int .i64 nx] 37)) from
            ⟨made_at _ _, World.ownsRow_nil _ _ _ _, (HG4.out.later hb6).low.size, (HG4.out.later hb6).low.alloc (HG4.out.later hb6).low.size _⟩)
          have HP7 := Lib.hid (later_at ((Below.refl _ _).alloc (Nat.le_refl _) (.cells #[.int .i64 p.gen, .int .i64 H, .string bs, .slice none 0 0, .int .i64 nx] 37)) HP6.out)
          clear hb6 HG4 HP4 z1 N0
          have z1 := cellH HP6.out 1
          simp at z1
          go_wp2_with fail
          generalize w6.alloc (.cells #[.int .i64 p.gen, .int .i64 H, .string bs, .slice none 0 0, .int .i64 nx] 37) = w7 at *
          generalize w6.heap.size = R2 at *
          clear HP6 z1
          have HOP := Lib.hid (show ∀ l nx', RecsStand (rdL Lp) H p.gen nx 1 l nx' → RecsStand (rdL Lp) H p.gen nx 1 ([] ++ l) nx' from fun l nx' h => by simpa using h)
          go_loopw [11, 13] (fun a11 a13 wv => ∃ (recs : List ByteArray) (at_ : Nat) (u2 : Value), a13 = .int .i64 (recs.length + 1) ∧ a11 = .int .i64 at_ ∧ 1 + recs.length ≤ at_ ∧ at_ ≤ H ∧ OpW w H R2 ⟨p.gen, bs, recs, at_⟩ u2 wv ∧ wv.heap[g]? = some (.cells #[.int .u64 p.stamp, .int .i64 p.gen, .int .i64 p.no, .int .i64 p.idx, .int .i64 p.tot, .string p.data] 75 (0, 0)) ∧
            (∀ l nx', RecsStand (rdL Lp) H p.gen at_ (recs.length + 1) l nx' → RecsStand (rdL Lp) H p.gen nx 1 (recs ++ l) nx')) (fun a _ _ => H - (intOf a).toNat)
          case atStart => exact ⟨[], nx, .slice none 0 0, rfl, rfl, by simp; omega, hnx1.2, HG6.out, HP7.out, fun l nx' h => HOP.out l nx' (by simpa using h)⟩
          case round =>
            obtain ⟨recs, at_, u2, rfl, rfl, ha1, ha2, hgw, hpw, hrc⟩ := hrel
            clear HG6 HP7 HOP
            have HGW := Lib.hid hgw
            have HPW := Lib.hid hpw
            have HRC := Lib.hid hrc
            clear hgw hpw hrc
            have N1 := Lib.hid (NX.out _ HGW.out.low at_ (recs.length + 1) (by omega))
            have z1 := cellH HPW.out 1
            simp at z1
            cases hn : nextP (rdL Lp) (at_ : Int) (H : Int) p.gen (recs.length + 1) with
            | none =>
              rw [hn] at N1
              change Hid (Calls Try.prog _ _ _ fun e W' => e = .returned (.tuple #[.string ⟨#[]⟩, .int .i64 at_, .bool false]) ∧ _) at N1
              have hrr : RecsStand (rdL Lp) H p.gen nx 1 recs at_ := by
                have := HRC.out [] at_ (.nil (fun ⟨t, ht⟩ => by rw [next_stands ht] at hn; cases hn))
                simpa using this
              have hs1 : Stands (rdL L) 0 (0 + (H : Int)) p.gen 0 bs := by
                have := (stands_shift (fun i h0 h1 => HRD.out i h0 h1) (Int.le_refl 0)).1 (show Stands (rdL Lp) 0 H p.gen 0 bs from HSTD.out)
                rwa [show 0 + (0 : Int) = 0 by omega] at this
              have hs2 : RecsStand (rdL L) (0 + (H : Int)) p.gen (0 + (cntN bs.size : Int)) 1 recs (0 + (at_ : Int)) := by
                have := recs_shift (fun i h0 h1 => HRD.out i h0 h1) hrr (by omega)
                rwa [HNX.out] at this
              have HH := Lib.hid (show HalfR (rdL L) 0 H 1 o ⟨p.gen, bs, recs, at_⟩ from .inl ⟨p.gen, bs, recs, 0 + (at_ : Int), by omega, HPAR.out, HGT.out, hs1, hs2, by rw [show 0 + (at_ : Int) - 0 = at_ by omega]⟩)
              clear hn hrr hs1 hs2
              go_wp2_with fail
              refine (N1.out).mono ?_
              rintro e wv2 ⟨rfl, hb8⟩
              have HGW2 := Lib.hid (HGW.out.later hb8)
              clear hb8 HGW HPW HRC N1 z1
              go_wp2_with fail
              go_roundw
              case rel => exact ⟨1, R2, _, u2, by omega, by go_num, rfl, HO.out.one HH.out, HGW2.out⟩
              case measure => simp [intOf]
            | some r =>
              obtain ⟨t, nxi⟩ := r
              obtain ⟨hst, hnx⟩ := next_iff.1 hn
              obtain ⟨nx2, hnxn⟩ : ∃ nx2 : Nat, nx2 = at_ + cntN t.size := ⟨_, rfl⟩
              have hnxi : nxi = (nx2 : Int) := by rw [hnx, hnxn]; omega
              subst hnxi
              rw [hn] at N1
              change Hid (Calls Try.prog _ _ _ fun e W' => e = .returned (.tuple #[.string t, .int .i64 nx2, .bool true]) ∧ _) at N1
              have hn2 : at_ + 1 ≤ nx2 ∧ nx2 ≤ H := by
                obtain ⟨_, _, _, _, h4, _⟩ := hst
                have := cnt_pos t.size
                omega
              have HRC2 := Lib.hid (show ∀ l nx', RecsStand (rdL Lp) H p.gen nx2 ((recs ++ [t]).length + 1) l nx' → RecsStand (rdL Lp) H p.gen nx 1 ((recs ++ [t]) ++ l) nx' from fun l nx' h => by
                rw [List.append_assoc]
                refine HRC.out _ _ (.cons hst ?_)
                rw [← hnx]
                simpa using h)
              clear hst hnx hn hnxn
              go_wp2_with fail
              refine (N1.out).mono ?_
              rintro e wv2 ⟨rfl, hb8⟩
              have HG8 := Lib.hid ((HGW.out.later hb8).later ((Below.refl _ _).alloc (Nat.le_refl _) (.cells #[.string t] 9)))
              have HP8 := Lib.hid (later_at ((Below.refl _ _).alloc (Nat.le_refl _) (.cells #[.string t] 9)) (later_at hb8 HPW.out))
              have HGv := Lib.hid (HGW.out.later hb8)
              have HNW := Lib.hid (show ∀ j u, [Value.string t][j]? = some u → (wv2.alloc (.cells #[.string t] 9)).cell? ((⟨wv2.heap.size, 0, none⟩ : Addr).add j) = some u from one_cell_new wv2 (.string t) 9)
              have HLE := Lib.hid (show w.heap.size ≤ (wv2.alloc (.cells #[.string t] 9)).heap.size from HG8.out.low.size)
              clear hb8 HGW HPW HRC N1 z1
              have y3 := cellH HGv.out.at_ 3
              have y4 := cellH HGv.out.at_ 4
              have yf := freeH HGv.out.at_
              simp at y3 y4
              go_wp2_with (at_builtin; refine wpList_append_own_at _ rfl (.tmp 101) (.tmp 103) 35 rfl w.heap.size 9 i0 _ 1 16 Try.underlying35 hi0 q0 q1 q2 rfl (by omega) u2 recs.length (txV recs) rfl HG8.out.own ⟨wv2.heap.size, 0, none⟩ 1 1 [.string t] rfl rfl HNW.out (by simp [Value.oneCell']) (by unfold maxLen; omega) (by omega) HLE.out ?_; intro v3 w9 hown9 hg9 _ _; obtain ⟨B3, c3, hv3⟩ : ∃ B3 c3, v3 = .slice B3 (recs.length + 1) c3 := (by rcases hown9.2 with ⟨_, e⟩ | ⟨q, cap, cur, e, _⟩; exact absurd e (by omega); exact ⟨_, _, e⟩); subst hv3; have HR9 := Lib.hid (grown_at hg9 HG8.out.at_ HG8.out.ne); have HO9 := Lib.hid hown9; have HG9 := Lib.hid hg9; have x3 := cellH HR9.out 3; have x4 := cellH HR9.out 4; have xf := freeH HR9.out; simp at x3 x4; clear hown9 hg9)
              have HS := Lib.hid (show OpW w H R2 ⟨p.gen, bs, recs ++ [t], nx2⟩ (.slice B3 (recs.length + 1) c3) ((w9.setCell ⟨R2, 3, none⟩ (.slice B3 (recs.length + 1) c3)).setCell ⟨R2, 4, none⟩ (.int .i64 nx2)) from by
                have et : txV (recs ++ [t]) = txV recs ++ [.string t] := List.map_append
                have el : (recs ++ [t]).length = recs.length + 1 := by simp
                refine ⟨?_, ?_, HG8.out.rb, ?_⟩
                · rw [row_set (row_set HR9.out)]
                  rfl
                · show World.ownsRow _ w.heap.size _ 1 (.slice B3 (recs.length + 1) c3) (recs ++ [t]).length (txV (recs ++ [t]))
                  rw [et, el]
                  exact own_set (own_set HO9.out HR9.out (by decide)) (row_set HR9.out) (by decide)
                · exact ((HG8.out.low.trans (Below.grown (Below.refl _ _) HG9.out HLE.out (fun b e => (own_type HG8.out.own e).1))).setCell HG8.out.rb _).setCell HG8.out.rb _)
              have HP9 := Lib.hid (show ((w9.setCell ⟨R2, 3, none⟩ (.slice B3 (recs.length + 1) c3)).setCell ⟨R2, 4, none⟩ (.int .i64 nx2)).heap[g]? = some (.cells #[.int .u64 p.stamp, .int .i64 p.gen, .int .i64 p.no, .int .i64 p.idx, .int .i64 p.tot, .string p.data] 75 (0, 0)) from by
                have h9 := grown_at HG9.out HP8.out (fun e => by
                  obtain ⟨_, cs, h2⟩ := own_type HG8.out.own e
                  rw [HP8.out] at h2
                  injection h2 with h2
                  injection h2 with _ ht
                  exact absurd ht (by decide))
                have hne : g ≠ R2 := fun e => by
                  subst e
                  have h2 := HG8.out.at_
                  rw [HP8.out] at h2
                  injection h2 with h2
                  injection h2 with _ ht
                  exact absurd ht (by decide)
                have o : ∀ (V : World) (i : Nat) (v : Value), (V.setCell ⟨R2, i, none⟩ v).heap[g]? = V.heap[g]? := fun V i v => Below.heap_setCell V ⟨R2, i, none⟩ v g (by simpa using hne)
                rw [o, o]
                exact h9)
              clear HG8 HP8 HGv HNW HLE HR9 HO9 HG9 x3 x4 xf y3 y4 yf
              go_wp2_with fail
              go_roundw
              case rel => exact ⟨recs ++ [t], nx2, _, by simp, rfl, by simp; omega, hn2.2, HS.out, HP9.out, HRC2.out⟩
              case measure => simp [intOf]; omega
    · have HP := Lib.hid (fun (W : World) (hW : Below w.heap.size w W) => texts_later hW (texts_take (texts_drop HT.out H) H))
      have HRD := Lib.hid (fun (i : Int) (h0 : 0 ≤ i) (h1 : i < (H : Int)) => (rdL_second (L := L) i h0 h1))
      obtain ⟨Lp, hLp⟩ : ∃ Lp, Lp = (L.drop H).take H := ⟨_, rfl⟩
      have hpl : Lp.length = H := by rw [hLp, List.length_take, List.length_drop, HLL.out, HNN.out]; omega
      rw [← hLp] at HP HRD
      clear hLp
      have HPL := Lib.hid hpl
      clear hpl
      obtain ⟨t0, ht0⟩ : ∃ t, Lp[0]? = some t := ⟨_, List.getElem?_eq_getElem (by have := HPL.out; omega)⟩
      have HT0 := Lib.hid (show rdL Lp 0 = t0 by unfold rdL; rw [show (0 : Int).toNat = 0 from rfl, ht0]; rfl)
      have x0 := (HP.out _ HG.out.low (by have := HPL.out; omega)).elim (fun ad' h => by have e := Option.some.inj h.1; have := h.2 0 t0 ht0; rw [← e] at this; exact this)
      clear ht0
      have R1 := Lib.hid (RD.out t0)
      obtain ⟨p, hp⟩ : ∃ p, p = (readP t0).getD noPc := ⟨_, rfl⟩
      rw [← hp] at R1
      have HPp := Lib.hid hp
      clear hp
      have x0 : wr.cell? (ad.add H) = some (.string t0) := x0
      have hHH : H + H - H = H := by omega
      go_wp2_with fail
      refine (R1.out _).mono ?_
      rintro e w3 ⟨rfl, hb3⟩
      have HG3 := Lib.hid ((HG.out.later hb3).later ((Below.refl _ _).alloc (Nat.le_refl _) (.cells #[.int .u64 p.stamp, .int .i64 p.gen, .int .i64 p.no, .int .i64 p.idx, .int .i64 p.tot, .string p.data] 75)))
      have HP3 := Lib.hid (made_at w3 (.cells #[.int .u64 p.stamp, .int .i64 p.gen, .int .i64 p.no, .int .i64 p.idx, .int .i64 p.tot, .string p.data] 75))
      clear hb3 HG R1 x0
      go_upto_region 7 with fail
      generalize w3.alloc (.cells #[.int .u64 p.stamp, .int .i64 p.gen, .int .i64 p.no, .int .i64 p.idx, .int .i64 p.tot, .string p.data] 75) = w4 at *
      generalize w3.heap.size = g at *
      have hpg : 0 ≤ p.gen ∧ p.gen ≤ 2147483647 := by
        rw [HPp.out]
        cases hr : readP t0 with
        | none => exact ⟨by decide, by decide⟩
        | some x => have := (readP_ok hr).1; have h1 := this.g0; have h2 := this.g1; simp only [Option.getD_some]; omega
      obtain ⟨hpg0, hpg1⟩ := hpg
      have z1 := cellH HP3.out 1
      have y0 := cellH HG3.out.at_ 0
      simp at z1 y0
      have HST := Lib.hid (show ∀ g' s', Stands (rdL L) (H : Int) ((H : Int) + (H : Int)) g' 0 s' → ∃ q, readP t0 = some q ∧ q.gen = g' from fun g' s' hs => by
        obtain ⟨q, hq, hq1, _⟩ := stands_first hs
        have h3 := HRD.out 0 (Int.le_refl _) (by omega)
        rw [HT0.out, show (H : Int) + (0 : Int) = (H : Int) by omega] at h3
        rw [← h3] at hq
        exact ⟨q, hq, hq1⟩)
      have hp := HPp.out
      clear HPp
      cases hrp : readP t0 with
      | none =>
        clear hp
        have hno : ∀ g' s', 1 ≤ g' → g' % 2 = 0 → o.gen < g' → ¬ Stands (rdL L) (H : Int) ((H : Int) + (H : Int)) g' 0 s' := by
          intro g' s' g1 g2 g3 hs
          obtain ⟨q, hq, hq1⟩ := HST.out g' s' hs
          rw [hrp] at hq
          cases hq
        have HH := Lib.hid (show HalfR (rdL L) (H : Int) H 0 o o from .inr ⟨hno, rfl⟩)
        clear hno
        have HG4 := Lib.hid (HG3.out.later (Below.refl _ _).drew)
        refine wp_region_kept (AtW w4.drew) (by kernel_rfl) (by kernel_rfl) ⟨rfl⟩ ?_
        intro hne
        have f1 : ∀ x : HeldW (AtW w4.drew), x.w.cell? ⟨g, 1, none⟩ = some (.int .i64 p.gen) := fun x => by rw [x.ok.eq]; exact z1
        have f0 : ∀ x : HeldW (AtW w4.drew), x.w.cell? ⟨R, 0, none⟩ = some (.int .i64 o.gen) := fun x => by rw [x.ok.eq]; exact y0
        repeat (go_big_quiet_step (fail))
        refine wpQuiet_nil ?_
        rintro W1 ⟨⟨_, hF⟩, rfl⟩
        obtain rfl := hF.eq
        clear f0 f1 hne hF z1 y0
        go_wp2_with fail
        go_roundw
        case rel => exact ⟨2, R, o, u, by omega, by go_num, rfl, HO.out.two HH.out, HG4.out⟩
        case measure => simp [intOf]
      | some p' =>
        rw [hrp] at hp
        simp only [Option.getD_some] at hp
        subst hp
        have HPQ := Lib.hid (show ∀ q, readP t0 = some q → p = q from fun q hq => by rw [hrp] at hq; exact Option.some.inj hq)
        clear hrp
        have htm : Int.tmod p.gen 2 = p.gen % 2 := by rw [Int.tmod_eq_emod_of_nonneg hpg0]
        by_cases h1g : p.gen < 1
        · have hno : ∀ g' s', 1 ≤ g' → g' % 2 = 0 → o.gen < g' → ¬ Stands (rdL L) (H : Int) ((H : Int) + (H : Int)) g' 0 s' := by
            intro g' s' g1 g2 g3 hs
            obtain ⟨q, hq, hq1⟩ := HST.out g' s' hs
            have := HPQ.out q hq
            subst this
            omega
          have HH := Lib.hid (show HalfR (rdL L) (H : Int) H 0 o o from .inr ⟨hno, rfl⟩)
          clear hno
          have HG4 := Lib.hid (HG3.out.later (Below.refl _ _).drew)
          refine wp_region_kept (AtW w4.drew) (by kernel_rfl) (by kernel_rfl) ⟨rfl⟩ ?_
          intro hne
          have f1 : ∀ x : HeldW (AtW w4.drew), x.w.cell? ⟨g, 1, none⟩ = some (.int .i64 p.gen) := fun x => by rw [x.ok.eq]; exact z1
          have f0 : ∀ x : HeldW (AtW w4.drew), x.w.cell? ⟨R, 0, none⟩ = some (.int .i64 o.gen) := fun x => by rw [x.ok.eq]; exact y0
          repeat (go_big_quiet_step (fail))
          refine wpQuiet_nil ?_
          rintro W1 ⟨⟨_, hF⟩, rfl⟩
          obtain rfl := hF.eq
          clear f0 f1 hne hF z1 y0
          go_wp2_with fail
          go_roundw
          case rel => exact ⟨2, R, o, u, by omega, by go_num, rfl, HO.out.two HH.out, HG4.out⟩
          case measure => simp [intOf]
        by_cases h2g : p.gen % 2 = 1
        · have hno : ∀ g' s', 1 ≤ g' → g' % 2 = 0 → o.gen < g' → ¬ Stands (rdL L) (H : Int) ((H : Int) + (H : Int)) g' 0 s' := by
            intro g' s' g1 g2 g3 hs
            obtain ⟨q, hq, hq1⟩ := HST.out g' s' hs
            have := HPQ.out q hq
            subst this
            omega
          have HH := Lib.hid (show HalfR (rdL L) (H : Int) H 0 o o from .inr ⟨hno, rfl⟩)
          clear hno
          have HG4 := Lib.hid (HG3.out.later (Below.refl _ _).drew)
          refine wp_region_kept (AtW w4.drew) (by kernel_rfl) (by kernel_rfl) ⟨rfl⟩ ?_
          intro hne
          have f1 : ∀ x : HeldW (AtW w4.drew), x.w.cell? ⟨g, 1, none⟩ = some (.int .i64 p.gen) := fun x => by rw [x.ok.eq]; exact z1
          have f0 : ∀ x : HeldW (AtW w4.drew), x.w.cell? ⟨R, 0, none⟩ = some (.int .i64 o.gen) := fun x => by rw [x.ok.eq]; exact y0
          repeat (go_big_quiet_step (fail))
          refine wpQuiet_nil ?_
          rintro W1 ⟨⟨_, hF⟩, rfl⟩
          obtain rfl := hF.eq
          clear f0 f1 hne hF z1 y0
          go_wp2_with fail
          go_roundw
          case rel => exact ⟨2, R, o, u, by omega, by go_num, rfl, HO.out.two HH.out, HG4.out⟩
          case measure => simp [intOf]
        have h2e : p.gen % 2 = 0 := by omega
        clear h2g
        by_cases h3g : p.gen ≤ o.gen
        · have hno : ∀ g' s', 1 ≤ g' → g' % 2 = 0 → o.gen < g' → ¬ Stands (rdL L) (H : Int) ((H : Int) + (H : Int)) g' 0 s' := by
            intro g' s' g1 g2 g3 hs
            obtain ⟨q, hq, hq1⟩ := HST.out g' s' hs
            have := HPQ.out q hq
            subst this
            omega
          have HH := Lib.hid (show HalfR (rdL L) (H : Int) H 0 o o from .inr ⟨hno, rfl⟩)
          clear hno
          have HG4 := Lib.hid (HG3.out.later (Below.refl _ _).drew)
          refine wp_region_kept (AtW w4.drew) (by kernel_rfl) (by kernel_rfl) ⟨rfl⟩ ?_
          intro hne
          have f1 : ∀ x : HeldW (AtW w4.drew), x.w.cell? ⟨g, 1, none⟩ = some (.int .i64 p.gen) := fun x => by rw [x.ok.eq]; exact z1
          have f0 : ∀ x : HeldW (AtW w4.drew), x.w.cell? ⟨R, 0, none⟩ = some (.int .i64 o.gen) := fun x => by rw [x.ok.eq]; exact y0
          repeat (go_big_quiet_step (fail))
          refine wpQuiet_nil ?_
          rintro W1 ⟨⟨_, hF⟩, rfl⟩
          obtain rfl := hF.eq
          clear f0 f1 hne hF z1 y0
          go_wp2_with fail
          go_roundw
          case rel => exact ⟨2, R, o, u, by omega, by go_num, rfl, HO.out.two HH.out, HG4.out⟩
          case measure => simp [intOf]
        have HPAR := Lib.hid (show p.gen % 2 = 0 by omega)
        have HGT := Lib.hid (show o.gen < p.gen by omega)
        refine wp_region_kept (AtW w4.drew) (by kernel_rfl) (by kernel_rfl) ⟨rfl⟩ ?_
        intro hne
        have f1 : ∀ x : HeldW (AtW w4.drew), x.w.cell? ⟨g, 1, none⟩ = some (.int .i64 p.gen) := fun x => by rw [x.ok.eq]; exact z1
        have f0 : ∀ x : HeldW (AtW w4.drew), x.w.cell? ⟨R, 0, none⟩ = some (.int .i64 o.gen) := fun x => by rw [x.ok.eq]; exact y0
        repeat (go_big_quiet_step (fail))
        refine wpQuiet_nil ?_
        rintro W1 ⟨⟨_, hF⟩, rfl⟩
        obtain rfl := hF.eq
        clear f0 f1 hne hF z1 y0
        have HG4 := Lib.hid (HG3.out.later (Below.refl _ _).drew)
        have HP4 := Lib.hid (show w4.drew.heap[g]? = some (.cells #[.int .u64 p.stamp, .int .i64 p.gen, .int .i64 p.no, .int .i64 p.idx, .int .i64 p.tot, .string p.data] 75 (0, 0)) from HP3.out)
        clear HG3 HP3
        generalize w4.drew = w5 at *
        have NX := Lib.hid (fun (W : World) (hW : Below w.heap.size w W) (a : Nat) (no : Int) (ha : a ≤ 100000) => refnext_is (c := (c - H)) (HP.out W hW) a p.gen no ha (by rw [HPL.out]; omega))
        rw [HPL.out] at NX
        have N0 := Lib.hid (NX.out _ HG4.out.low 0 0 (by omega))
        have z1 := cellH HP4.out 1
        simp at z1
        cases hn : nextP (rdL Lp) ((0 : Nat) : Int) (H : Int) p.gen 0 with
        | none =>
          rw [hn] at N0
          change Hid (Calls Try.prog _ #[_, .int .i64 0, _, _, _] _ fun e W' => e = .returned (.tuple #[.string ⟨#[]⟩, .int .i64 0, .bool false]) ∧ _) at N0
          have hno : ∀ g' s', 1 ≤ g' → g' % 2 = 0 → o.gen < g' → ¬ Stands (rdL L) (H : Int) ((H : Int) + (H : Int)) g' 0 s' := by
            intro g' s' g1 g2 g3 hs
            obtain ⟨q, hq, hq1⟩ := HST.out g' s' hs
            have := HPQ.out q hq
            subst this
            rw [← hq1] at hs
            have h4 := (stands_shift (fun i h0 h1 => HRD.out i h0 h1) (Int.le_refl 0)).2 (show Stands (rdL L) ((H : Int) + 0) ((H : Int) + (H : Int)) p.gen 0 s' by rw [Int.add_zero]; exact hs)
            have h5 := next_stands h4
            rw [show ((0 : Nat) : Int) = 0 from rfl, h5] at hn
            cases hn
          have HH := Lib.hid (show HalfR (rdL L) (H : Int) H 0 o o from .inr ⟨hno, rfl⟩)
          clear hn hno
          go_wp2_with fail
          refine (N0.out).mono ?_
          rintro e w6 ⟨rfl, hb6⟩
          have HG6 := Lib.hid (HG4.out.later hb6)
          clear hb6 HG4 HP4 z1 N0
          go_wp2_with fail
          go_roundw
          case rel => exact ⟨2, R, o, u, by omega, by go_num, rfl, HO.out.two HH.out, HG6.out⟩
          case measure => simp [intOf]
        | some r =>
          obtain ⟨bs, nxi⟩ := r
          obtain ⟨hst, hnx⟩ := next_iff.1 hn
          obtain ⟨nx, hnxn⟩ : ∃ nx : Nat, nx = cntN bs.size := ⟨_, rfl⟩
          have hnxi : nxi = (nx : Int) := by rw [hnx, hnxn]; simp
          subst hnxi
          rw [hn] at N0
          change Hid (Calls Try.prog _ #[_, .int .i64 0, _, _, _] _ fun e W' => e = .returned (.tuple #[.string bs, .int .i64 nx, .bool true]) ∧ _) at N0
          have hnx1 : 1 ≤ nx ∧ nx ≤ H := by
            obtain ⟨_, _, _, _, h4, _⟩ := hst
            have := cnt_pos bs.size
            rw [← hnxn] at h4 this
            simp at h4
            omega
          have HSTD := Lib.hid hst
          have HNX := Lib.hid hnxn
          clear hst hnx hnxn hn
          go_wp2_with fail
          refine (N0.out).mono ?_
          rintro e w6 ⟨rfl, hb6⟩
          have HP6 := Lib.hid (later_at hb6 HP4.out)
          have HG6 := Lib.hid (show OpW w H w6.heap.size ⟨p.gen, bs, [], nx⟩ (.slice none 0 0) (w6.alloc (.cells #[.int .i64 p.gen, .int .i64 H, .string bs, .slice none 0 0, .int .i64 nx] 37)) from
            ⟨made_at _ _, World.ownsRow_nil _ _ _ _, (HG4.out.later hb6).low.size, (HG4.out.later hb6).low.alloc (HG4.out.later hb6).low.size _⟩)
          have HP7 := Lib.hid (later_at ((Below.refl _ _).alloc (Nat.le_refl _) (.cells #[.int .i64 p.gen, .int .i64 H, .string bs, .slice none 0 0, .int .i64 nx] 37)) HP6.out)
          clear hb6 HG4 HP4 z1 N0
          have z1 := cellH HP6.out 1
          simp at z1
          go_wp2_with fail
          generalize w6.alloc (.cells #[.int .i64 p.gen, .int .i64 H, .string bs, .slice none 0 0, .int .i64 nx] 37) = w7 at *
          generalize w6.heap.size = R2 at *
          clear HP6 z1
          have HOP := Lib.hid (show ∀ l nx', RecsStand (rdL Lp) H p.gen nx 1 l nx' → RecsStand (rdL Lp) H p.gen nx 1 ([] ++ l) nx' from fun l nx' h => by simpa using h)
          go_loopw [11, 13] (fun a11 a13 wv => ∃ (recs : List ByteArray) (at_ : Nat) (u2 : Value), a13 = .int .i64 (recs.length + 1) ∧ a11 = .int .i64 at_ ∧ 1 + recs.length ≤ at_ ∧ at_ ≤ H ∧ OpW w H R2 ⟨p.gen, bs, recs, at_⟩ u2 wv ∧ wv.heap[g]? = some (.cells #[.int .u64 p.stamp, .int .i64 p.gen, .int .i64 p.no, .int .i64 p.idx, .int .i64 p.tot, .string p.data] 75 (0, 0)) ∧
            (∀ l nx', RecsStand (rdL Lp) H p.gen at_ (recs.length + 1) l nx' → RecsStand (rdL Lp) H p.gen nx 1 (recs ++ l) nx')) (fun a _ _ => H - (intOf a).toNat)
          case atStart => exact ⟨[], nx, .slice none 0 0, rfl, rfl, by simp; omega, hnx1.2, HG6.out, HP7.out, fun l nx' h => HOP.out l nx' (by simpa using h)⟩
          case round =>
            obtain ⟨recs, at_, u2, rfl, rfl, ha1, ha2, hgw, hpw, hrc⟩ := hrel
            clear HG6 HP7 HOP
            have HGW := Lib.hid hgw
            have HPW := Lib.hid hpw
            have HRC := Lib.hid hrc
            clear hgw hpw hrc
            have N1 := Lib.hid (NX.out _ HGW.out.low at_ (recs.length + 1) (by omega))
            have z1 := cellH HPW.out 1
            simp at z1
            cases hn : nextP (rdL Lp) (at_ : Int) (H : Int) p.gen (recs.length + 1) with
            | none =>
              rw [hn] at N1
              change Hid (Calls Try.prog _ _ _ fun e W' => e = .returned (.tuple #[.string ⟨#[]⟩, .int .i64 at_, .bool false]) ∧ _) at N1
              have hrr : RecsStand (rdL Lp) H p.gen nx 1 recs at_ := by
                have := HRC.out [] at_ (.nil (fun ⟨t, ht⟩ => by rw [next_stands ht] at hn; cases hn))
                simpa using this
              have hs1 : Stands (rdL L) (H : Int) ((H : Int) + (H : Int)) p.gen 0 bs := by
                have := (stands_shift (fun i h0 h1 => HRD.out i h0 h1) (Int.le_refl 0)).1 (show Stands (rdL Lp) 0 H p.gen 0 bs from HSTD.out)
                rwa [show (H : Int) + (0 : Int) = (H : Int) by omega] at this
              have hs2 : RecsStand (rdL L) ((H : Int) + (H : Int)) p.gen ((H : Int) + (cntN bs.size : Int)) 1 recs ((H : Int) + (at_ : Int)) := by
                have := recs_shift (fun i h0 h1 => HRD.out i h0 h1) hrr (by omega)
                rwa [HNX.out] at this
              have HH := Lib.hid (show HalfR (rdL L) (H : Int) H 0 o ⟨p.gen, bs, recs, at_⟩ from .inl ⟨p.gen, bs, recs, (H : Int) + (at_ : Int), by omega, HPAR.out, HGT.out, hs1, hs2, by rw [show (H : Int) + (at_ : Int) - (H : Int) = at_ by omega]⟩)
              clear hn hrr hs1 hs2
              go_wp2_with fail
              refine (N1.out).mono ?_
              rintro e wv2 ⟨rfl, hb8⟩
              have HGW2 := Lib.hid (HGW.out.later hb8)
              clear hb8 HGW HPW HRC N1 z1
              go_wp2_with fail
              go_roundw
              case rel => exact ⟨2, R2, _, u2, by omega, by go_num, rfl, HO.out.two HH.out, HGW2.out⟩
              case measure => simp [intOf]
            | some r =>
              obtain ⟨t, nxi⟩ := r
              obtain ⟨hst, hnx⟩ := next_iff.1 hn
              obtain ⟨nx2, hnxn⟩ : ∃ nx2 : Nat, nx2 = at_ + cntN t.size := ⟨_, rfl⟩
              have hnxi : nxi = (nx2 : Int) := by rw [hnx, hnxn]; omega
              subst hnxi
              rw [hn] at N1
              change Hid (Calls Try.prog _ _ _ fun e W' => e = .returned (.tuple #[.string t, .int .i64 nx2, .bool true]) ∧ _) at N1
              have hn2 : at_ + 1 ≤ nx2 ∧ nx2 ≤ H := by
                obtain ⟨_, _, _, _, h4, _⟩ := hst
                have := cnt_pos t.size
                omega
              have HRC2 := Lib.hid (show ∀ l nx', RecsStand (rdL Lp) H p.gen nx2 ((recs ++ [t]).length + 1) l nx' → RecsStand (rdL Lp) H p.gen nx 1 ((recs ++ [t]) ++ l) nx' from fun l nx' h => by
                rw [List.append_assoc]
                refine HRC.out _ _ (.cons hst ?_)
                rw [← hnx]
                simpa using h)
              clear hst hnx hn hnxn
              go_wp2_with fail
              refine (N1.out).mono ?_
              rintro e wv2 ⟨rfl, hb8⟩
              have HG8 := Lib.hid ((HGW.out.later hb8).later ((Below.refl _ _).alloc (Nat.le_refl _) (.cells #[.string t] 9)))
              have HP8 := Lib.hid (later_at ((Below.refl _ _).alloc (Nat.le_refl _) (.cells #[.string t] 9)) (later_at hb8 HPW.out))
              have HGv := Lib.hid (HGW.out.later hb8)
              have HNW := Lib.hid (show ∀ j u, [Value.string t][j]? = some u → (wv2.alloc (.cells #[.string t] 9)).cell? ((⟨wv2.heap.size, 0, none⟩ : Addr).add j) = some u from one_cell_new wv2 (.string t) 9)
              have HLE := Lib.hid (show w.heap.size ≤ (wv2.alloc (.cells #[.string t] 9)).heap.size from HG8.out.low.size)
              clear hb8 HGW HPW HRC N1 z1
              have y3 := cellH HGv.out.at_ 3
              have y4 := cellH HGv.out.at_ 4
              have yf := freeH HGv.out.at_
              simp at y3 y4
              go_wp2_with (at_builtin; refine wpList_append_own_at _ rfl (.tmp 101) (.tmp 103) 35 rfl w.heap.size 9 i0 _ 1 16 Try.underlying35 hi0 q0 q1 q2 rfl (by omega) u2 recs.length (txV recs) rfl HG8.out.own ⟨wv2.heap.size, 0, none⟩ 1 1 [.string t] rfl rfl HNW.out (by simp [Value.oneCell']) (by unfold maxLen; omega) (by omega) HLE.out ?_; intro v3 w9 hown9 hg9 _ _; obtain ⟨B3, c3, hv3⟩ : ∃ B3 c3, v3 = .slice B3 (recs.length + 1) c3 := (by rcases hown9.2 with ⟨_, e⟩ | ⟨q, cap, cur, e, _⟩; exact absurd e (by omega); exact ⟨_, _, e⟩); subst hv3; have HR9 := Lib.hid (grown_at hg9 HG8.out.at_ HG8.out.ne); have HO9 := Lib.hid hown9; have HG9 := Lib.hid hg9; have x3 := cellH HR9.out 3; have x4 := cellH HR9.out 4; have xf := freeH HR9.out; simp at x3 x4; clear hown9 hg9)
              have HS := Lib.hid (show OpW w H R2 ⟨p.gen, bs, recs ++ [t], nx2⟩ (.slice B3 (recs.length + 1) c3) ((w9.setCell ⟨R2, 3, none⟩ (.slice B3 (recs.length + 1) c3)).setCell ⟨R2, 4, none⟩ (.int .i64 nx2)) from by
                have et : txV (recs ++ [t]) = txV recs ++ [.string t] := List.map_append
                have el : (recs ++ [t]).length = recs.length + 1 := by simp
                refine ⟨?_, ?_, HG8.out.rb, ?_⟩
                · rw [row_set (row_set HR9.out)]
                  rfl
                · show World.ownsRow _ w.heap.size _ 1 (.slice B3 (recs.length + 1) c3) (recs ++ [t]).length (txV (recs ++ [t]))
                  rw [et, el]
                  exact own_set (own_set HO9.out HR9.out (by decide)) (row_set HR9.out) (by decide)
                · exact ((HG8.out.low.trans (Below.grown (Below.refl _ _) HG9.out HLE.out (fun b e => (own_type HG8.out.own e).1))).setCell HG8.out.rb _).setCell HG8.out.rb _)
              have HP9 := Lib.hid (show ((w9.setCell ⟨R2, 3, none⟩ (.slice B3 (recs.length + 1) c3)).setCell ⟨R2, 4, none⟩ (.int .i64 nx2)).heap[g]? = some (.cells #[.int .u64 p.stamp, .int .i64 p.gen, .int .i64 p.no, .int .i64 p.idx, .int .i64 p.tot, .string p.data] 75 (0, 0)) from by
                have h9 := grown_at HG9.out HP8.out (fun e => by
                  obtain ⟨_, cs, h2⟩ := own_type HG8.out.own e
                  rw [HP8.out] at h2
                  injection h2 with h2
                  injection h2 with _ ht
                  exact absurd ht (by decide))
                have hne : g ≠ R2 := fun e => by
                  subst e
                  have h2 := HG8.out.at_
                  rw [HP8.out] at h2
                  injection h2 with h2
                  injection h2 with _ ht
                  exact absurd ht (by decide)
                have o : ∀ (V : World) (i : Nat) (v : Value), (V.setCell ⟨R2, i, none⟩ v).heap[g]? = V.heap[g]? := fun V i v => Below.heap_setCell V ⟨R2, i, none⟩ v g (by simpa using hne)
                rw [o, o]
                exact h9)
              clear HG8 HP8 HGv HNW HLE HR9 HO9 HG9 x3 x4 xf y3 y4 yf
              go_wp2_with fail
              go_roundw
              case rel => exact ⟨recs ++ [t], nx2, _, by simp, rfl, by simp; omega, hn2.2, HS.out, HP9.out, HRC2.out⟩
              case measure => simp [intOf]; omega
    · go_wp2_with fail
      go_ret
      exact ⟨R, u, o, rfl, HO.out, HG.out⟩
end
end Go.Proofs.Ytbdgmddlghhkjaa
