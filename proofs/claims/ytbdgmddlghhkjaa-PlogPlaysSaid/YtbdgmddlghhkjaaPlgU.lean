/-
  Plain words of logs, on: what an Append leaves, with and without a failure of power, held against the document's; what is opened then. No program is named here. The program's log with its disk between the calls: what is opened is what stands, what an Append leaves; the document's log, framed. No conditions but how they lie, and sizes.
-/
import Derived.Test.YtbdgmddlghhkjaaPlgH
namespace Go.Proofs.Ytbdgmddlghhkjaa

/-- A log, its numbers and its disk, as they stand between the calls; k: how many texts were laid at most. -/
structure InvP (k : Nat) (c : PCfg) (K : LogV) (st : Dk) : Prop where
  off : st.off = false
  cache : st.cache = []
  b0 : 0 ≤ c.base
  h0 : 1 ≤ c.half
  h1 : c.half ≤ 2000
  len : c.base + 2 * c.half ≤ st.kept.length
  l0 : 0 ≤ c.laid
  t0 : 0 ≤ c.boot
  t1 : c.boot < 4294967296
  few : k ≤ 400
  wr : st.writes ≤ 2000 * k
  lk : c.laid ≤ k
  gk : K.gen ≤ k
  a0 : 0 ≤ K.at_
  a1 : K.at_ ≤ c.half
  rl : (K.recs.length : Int) ≤ K.at_
  none : K.gen = 0 → K = noLog
  log : LogOK (rdK st.kept) c.base c.half K.gen K.bs K.recs (halfAt c.base c.half K.gen + K.at_)
  ends : EndsLow st.kept (stampV c)
theorem InvP.fit {k : Nat} {c : PCfg} {K : LogV} {st : Dk} (h : InvP k c K st) : PFit c K st where
  off := h.off
  cache := h.cache
  b0 := h.b0
  h0 := h.h0
  h1 := h.h1
  len := h.len
  wr := by have := h.wr; have := h.few; omega
  l0 := h.l0
  l1 := by have := h.lk; have := h.few; omega
  t0 := h.t0
  t1 := h.t1
  g0 := h.log.g0
  g1 := by have := h.gk; have := h.few; omega
  a0 := h.a0
  a1 := by have := h.a1; have := h.h1; omega
  rl := by have := h.rl; have := h.a1; have := h.h1; omega

theorem later_ok {rd : Int → ByteArray} {base half g at_ : Int} {bs : ByteArray} {recs : List ByteArray} (h : LogOK rd base half g bs recs at_) {K1 K2 : LogV} (h1 : FoundR rd base half 1 K1) (h2 : FoundR rd (base + half) half 0 K2) :
    (g = 0 ∧ laterK K1 K2 = noLog) ∨ (0 < g ∧ laterK K1 K2 = ⟨g, bs, recs, at_ - halfAt base half g⟩) := by
  have r1 : HalfR rd base half 1 noLog K1 := by
    rcases h1 with ⟨g, s, r, nx, a1, a2, a3, a4, a5⟩ | ⟨a1, a2⟩
    · exact .inl ⟨g, s, r, nx, a1, a2, by show (0 : Int) < g; omega, a3, a4, a5⟩
    · exact .inr ⟨fun g s b1 b2 _ => a1 g s b1 b2, a2⟩
  have r2 : HalfR rd (base + half) half 0 K1 (laterK K1 K2) := by
    unfold laterK
    rcases h2 with ⟨g, s, r, nx, a1, a2, a3, a4, rfl⟩ | ⟨a1, rfl⟩
    · by_cases hc : K1.gen < g
      · rw [if_neg (show ¬ g < K1.gen by omega)]
        exact .inl ⟨g, s, r, nx, a1, a2, hc, a3, a4, rfl⟩
      · have hne : K1.gen ≠ g := by
          rcases h1 with ⟨g', _, _, _, _, b2, _, _, rfl⟩ | ⟨_, rfl⟩
          · show g' ≠ g
            omega
          · show (0 : Int) ≠ g
            omega
        rw [if_pos (show g < K1.gen by omega)]
        refine .inr ⟨fun g' s' _ _ c3 c4 => ?_, rfl⟩
        obtain ⟨p, hp1, hp2, _⟩ := stands_first c4
        obtain ⟨q, hq1, hq2, _⟩ := stands_first a3
        rw [hp1] at hq1
        obtain rfl := Option.some.inj hq1
        omega
    · by_cases hc : (0 : Int) < K1.gen
      · rw [if_pos (show noLog.gen < K1.gen from hc)]
        exact .inr ⟨fun g s b1 b2 _ => a1 g s b1 b2, rfl⟩
      · rw [if_neg (show ¬ noLog.gen < K1.gen from hc)]
        rcases h1 with ⟨g', _, _, _, b1, _, _, _, rfl⟩ | ⟨_, rfl⟩
        · exact absurd (show (0 : Int) < g' by omega) hc
        · exact .inr ⟨fun g s b1 b2 _ => a1 g s b1 b2, rfl⟩
  exact open_ok h r1 r2
theorem InvP.opens {k : Nat} {c : PCfg} {K : LogV} {st : Dk} (h : InvP k c K st) {K1 K2 : LogV} (h1 : FoundR (rdK st.kept) c.base c.half 1 K1) (h2 : FoundR (rdK st.kept) (c.base + c.half) c.half 0 K2) : laterK K1 K2 = K := by
  rcases later_ok h.log h1 h2 with ⟨e1, e2⟩ | ⟨e1, e2⟩
  · rw [e2, h.none e1]
  · rw [e2]
    obtain ⟨g, bs, recs, at_⟩ := K
    simp only [LogV.mk.injEq, true_and]
    omega
/-- With another boot, nothing is laid yet. -/
theorem InvP.again {k : Nat} {c : PCfg} {K : LogV} {st : Dk} (h : InvP k c K st) {b : Int} (hb : c.boot < b) (hb1 : b < 4294967296) : InvP k { c with boot := b, laid := 0 } K st :=
  { h with
    l0 := Int.le_refl _
    t0 := by have := h.t0; show 0 ≤ b; omega
    t1 := hb1
    lk := by show (0 : Int) ≤ k; omega
    ends := fun s hs => by
      have := h.ends s hs
      refine ⟨this.1, Int.lt_of_lt_of_le this.2 ?_⟩
      have := h.lk
      have := h.few
      unfold stampV
      simp only
      omega }

/-- As the document has it. -/
def refOf (half : Int) (K : LogV) : LogR := ⟨K.gen, half, K.bs, K.recs, K.at_⟩
def ofRef (L : LogR) : LogV := ⟨L.gen, L.bs, L.recs, L.at_⟩

section
variable {st : Dk} {p : Int} {s : ByteArray} {X gen no : Int}
/-- What a text's sectors that were laid leave. -/
theorem lay_step (ho : st.off = false) (_hc : st.cache = []) (_ha : 0 ≤ st.armed) (h0 : 0 ≤ p) (h1 : p + cntN s.size ≤ st.kept.length) (hX0 : 0 ≤ X) (hX1 : X < 18446744073709551616) (hok : layOk s gen no = true) (hl : EndsLow st.kept X) :
    HitAt (rdK st.kept) (rdK (layS st p (textT s X gen no) (cntN s.size)).kept) p (cntN s.size) (textT s X gen no) ∧ EndsLow (layS st p (textT s X gen no) (cntN s.size)).kept (X + 1) ∧
      (layS st p (textT s X gen no) (cntN s.size)).cache = [] ∧ (layS st p (textT s X gen no) (cntN s.size)).kept.length = st.kept.length ∧ (layS st p (textT s X gen no) (cntN s.size)).writes ≤ st.writes + cntN s.size ∧
      ((layE st (cntN s.size) = 0 ∧ (layS st p (textT s X gen no) (cntN s.size)).off = false ∧ (st.armed = 0 → (layS st p (textT s X gen no) (cntN s.size)).armed = 0) ∧ ∀ e, p + cntN s.size ≤ e → Stands (rdK (layS st p (textT s X gen no) (cntN s.size)).kept) p e gen no s) ∨
        (layE st (cntN s.size) = 5 ∧ 0 < st.armed ∧ (layS st p (textT s X gen no) (cntN s.size)).off = true)) := by
  have hf64 : ∀ j : Nat, (fun _ : Nat => 64) j = 0 ∨ (fun _ : Nat => 64) j = 16 ∨ (fun _ : Nat => 64) j = 32 ∨ (fun _ : Nat => 64) j = 48 ∨ (fun _ : Nat => 64) j = 64 := fun _ => .inr (.inr (.inr (.inr rfl)))
  by_cases hb : 1 ≤ st.armed ∧ st.armed ≤ cntN s.size
  · have e1 : layS st p (textT s X gen no) (cntN s.size) = writeS (wroteS st p (textT s X gen no) (st.armed - 1).toNat) (p + (st.armed - 1).toNat) (textT s X gen no (st.armed - 1).toNat) := if_pos hb
    have e2 : layE st (cntN s.size) = 5 := if_pos hb
    obtain ⟨j, hj⟩ : ∃ j, j = (st.armed - 1).toNat := ⟨_, rfl⟩
    rw [← hj] at e1
    have hjn : j < cntN s.size := by omega
    have hts : (textT s X gen no j).size = 64 := print_size ((rightP_iff _).1 ((piece_right hjn).trans hok)).d
    obtain ⟨_, w2, w3, w4, w5⟩ := wrote_fail (T := textT s X gen no) ho h0 (by omega) hts (by omega : st.armed = (j : Int) + 1)
    rw [← e1] at w2 w3 w4 w5
    obtain ⟨k1, k2⟩ := kept_hit (f := fateF st.bits) (fun j => fateF_cases st.bits j) h0 (show j + 1 ≤ cntN s.size by omega) (by omega) hX0 hX1 hok hl
    rw [← w4] at k1 k2
    refine ⟨k1, k2, w3, by rw [w4, keptTo_len], by rw [w5]; omega, .inr ⟨e2, by omega, w2⟩⟩
  · have e1 : layS st p (textT s X gen no) (cntN s.size) = flushS (wroteS st p (textT s X gen no) (cntN s.size)) := if_neg hb
    have e2 : layE st (cntN s.size) = 0 := if_neg hb
    obtain ⟨_, w2, w3, w4⟩ := wrote_flush (T := textT s X gen no) (p := p) ho (m := cntN s.size)
    have w5 : (flushS (wroteS st p (textT s X gen no) (cntN s.size))).writes = st.writes + cntN s.size := by
      unfold flushS
      rw [show (wroteS st p (textT s X gen no) (cntN s.size)).off = false from ho]
      rfl
    have w6 : st.armed = 0 → (flushS (wroteS st p (textT s X gen no) (cntN s.size))).armed = 0 := by
      intro h
      unfold flushS
      rw [show (wroteS st p (textT s X gen no) (cntN s.size)).off = false from ho]
      show (if 0 < st.armed then st.armed - ((cntN s.size : Nat) : Int) else st.armed) = 0
      rw [if_neg (by omega), h]
    rw [← e1] at w2 w3 w4 w5 w6
    obtain ⟨k1, k2⟩ := kept_hit hf64 h0 (Nat.le_refl (cntN s.size)) (by omega) hX0 hX1 hok hl
    rw [← w2] at k1 k2
    refine ⟨k1, k2, w3, by rw [w2, keptTo_len], by rw [w5]; omega, .inl ⟨e2, w4, w6, fun e he => ?_⟩⟩
    rw [w2]
    exact kept_all h0 (by omega) he hX0 hX1 hok hl
end

section
variable {k : Nat} {c : PCfg} {K : LogV} {st : Dk}
theorem stamp_next (c : PCfg) (l : Int) (h : l = c.laid + 1) : stampV { c with laid := l } = stampV c + 1 := by
  unfold stampV
  simp only
  omega
/-- AN APPEND, whole or not, held against the document's. -/
theorem app_step (h : InvP k c K st) (ha : 0 ≤ st.armed) (hk : k < 400) (rec after : ByteArray) :
    ((appP c K st rec after).e ≠ 5 ∧ (appP c K st rec after).e = (appendR (refOf c.half K) rec after).2 ∧ (appP c K st rec after).K = ofRef (appendR (refOf c.half K) rec after).1 ∧ (appendR (refOf c.half K) rec after).1.half = c.half ∧
        (st.armed = 0 → (appP c K st rec after).st.armed = 0) ∧ InvP (k + 1) { c with laid := (appP c K st rec after).laid } (appP c K st rec after).K (appP c K st rec after).st) ∨
      ((appP c K st rec after).e = 5 ∧ (appendR (refOf c.half K) rec after).2 = 0 ∧ (appendR (refOf c.half K) rec after).1.half = c.half ∧ 0 < st.armed ∧
        ∃ K2, (K2 = K ∨ K2 = ofRef (appendR (refOf c.half K) rec after).1) ∧ ∀ b, c.boot < b → b < 4294967296 → InvP (k + 1) { c with boot := b, laid := 0 } K2 (startS (appP c K st rec after).st)) := by
  have hg0 := h.log.g0
  have hgk := h.gk
  have hcr := cnt_pos rec.size
  have hca := cnt_pos after.size
  have hh1 := h.h1
  have hh0 := h.h0
  have hb0 := h.b0
  have hlen := h.len
  have ha0 := h.a0
  have ha1 := h.a1
  have hrl := h.rl
  have hlk := h.lk
  have hl0 := h.l0
  have ht0 := h.t0
  have ht1 := h.t1
  have hwr := h.wr
  have hX0 : 0 ≤ stampV c := by unfold stampV; omega
  have hX1 : stampV c < 18446744073709551616 := by unfold stampV; omega
  have hboot : ∀ b, c.boot < b → stampV c + 1 ≤ stampV { c with boot := b, laid := 0 } := fun b hb => by unfold stampV; simp only; omega
  have hhg : ∀ g, 0 ≤ halfAt c.base c.half g ∧ halfAt c.base c.half g + c.half ≤ st.kept.length := fun g => by unfold halfAt; split <;> omega
  unfold appP appendR refOf
  simp only
  rw [if_neg (show ¬ 2147483646 ≤ K.gen by omega), if_neg (show ¬ 2147483646 ≤ K.gen by omega)]
  by_cases hfit : 0 < K.gen ∧ K.at_ + cntN rec.size ≤ c.half
  · rw [if_pos hfit, if_pos hfit]
    simp only
    obtain ⟨hgp, hroom⟩ := hfit
    have hok : layOk rec K.gen (K.recs.length + 1) = true := by
      unfold layOk
      simp only [Bool.and_eq_true, decide_eq_true_eq]
      omega
    have := hhg K.gen
    obtain ⟨s1, s2, s3, s4, s5, s6⟩ := lay_step (s := rec) (gen := K.gen) (no := K.recs.length + 1) (p := halfAt c.base c.half K.gen + K.at_) h.off h.cache ha (by omega) (by omega) hX0 hX1 hok h.ends
    have hrec := log_record h.log hgp hX0 hX1 h.ends.fresh hok (by omega) s1
    generalize layS st (halfAt c.base c.half K.gen + K.at_) (textT rec (stampV c) K.gen (K.recs.length + 1)) (cntN rec.size) = st' at *
    rw [Int.add_assoc] at hrec
    rcases s6 with ⟨e1, e2, e3, e4⟩ | ⟨e1, e2, e3⟩
    · left
      rw [e1]
      refine ⟨by decide, (by first | trivial | rfl), (by first | trivial | rfl), (by first | trivial | rfl), e3, ?_⟩
      simp only [if_true]
      have hst := e4 (halfAt c.base c.half K.gen + c.half) (by omega)
      rcases hrec with ⟨_, hl⟩ | ⟨hn, _⟩
      · exact { off := e2, cache := s3, b0 := hb0, h0 := hh0, h1 := hh1, len := by rw [s4]; exact hlen, l0 := by show 0 ≤ c.laid + 1; omega, t0 := ht0, t1 := ht1, few := by omega, wr := by omega, lk := by show c.laid + 1 ≤ _; omega, gk := by show K.gen ≤ _; omega,
                a0 := by show 0 ≤ K.at_ + _; omega, a1 := hroom, rl := by show ((K.recs ++ [rec]).length : Int) ≤ K.at_ + _; rw [List.length_append]; simp; omega, none := fun hz => absurd hz (by show ¬ K.gen = 0; omega), log := hl,
                ends := by rw [stamp_next c _ rfl]; exact s2 }
      · exact absurd hst hn
    · right
      rw [e1]
      refine ⟨(by first | trivial | rfl), (by first | trivial | rfl), (by first | trivial | rfl), e2, ?_⟩
      rcases hrec with ⟨_, hl⟩ | ⟨_, hl⟩
      · refine ⟨_, .inr rfl, fun b hb hb1 => ?_⟩
        exact { off := rfl, cache := s3, b0 := hb0, h0 := hh0, h1 := hh1, len := by show _ ≤ (st'.kept.length : Int); rw [s4]; exact hlen, l0 := Int.le_refl _, t0 := by show 0 ≤ b; omega, t1 := hb1, few := by omega, wr := by show st'.writes ≤ _; omega, lk := by show (0 : Int) ≤ _; omega, gk := by show K.gen ≤ _; omega,
                a0 := by show 0 ≤ K.at_ + _; omega, a1 := hroom, rl := by show ((K.recs ++ [rec]).length : Int) ≤ K.at_ + _; rw [List.length_append]; simp; omega, none := fun hz => absurd hz (by show ¬ K.gen = 0; omega), log := hl,
                ends := fun x hx => ⟨(s2 x hx).1, Int.lt_of_lt_of_le (s2 x hx).2 (hboot b hb)⟩ }
      · refine ⟨K, .inl rfl, fun b hb hb1 => ?_⟩
        exact { off := rfl, cache := s3, b0 := hb0, h0 := hh0, h1 := hh1, len := by show _ ≤ (st'.kept.length : Int); rw [s4]; exact hlen, l0 := Int.le_refl _, t0 := by show 0 ≤ b; omega, t1 := hb1, few := by omega, wr := by show st'.writes ≤ _; omega, lk := by show (0 : Int) ≤ _; omega, gk := by omega,
                a0 := ha0, a1 := ha1, rl := hrl, none := h.none, log := hl,
                ends := fun x hx => ⟨(s2 x hx).1, Int.lt_of_lt_of_le (s2 x hx).2 (hboot b hb)⟩ }
  · rw [if_neg hfit, if_neg hfit]
    by_cases hbig : (cntN after.size : Int) ≤ c.half
    · rw [if_pos hbig, if_neg (show ¬ c.half < (cntN after.size : Int) by omega)]
      simp only
      have hok : layOk after (K.gen + 1) 0 = true := by
        unfold layOk
        simp only [Bool.and_eq_true, decide_eq_true_eq]
        omega
      have := hhg (K.gen + 1)
      obtain ⟨s1, s2, s3, s4, s5, s6⟩ := lay_step (s := after) (gen := K.gen + 1) (no := 0) (p := halfAt c.base c.half (K.gen + 1)) h.off h.cache ha (by omega) (by omega) hX0 hX1 hok h.ends
      have hrec := log_base h.log (fun _ => by omega) hX0 hX1 h.ends.fresh hok hbig s1
      generalize layS st (halfAt c.base c.half (K.gen + 1)) (textT after (stampV c) (K.gen + 1) 0) (cntN after.size) = st' at *
      rcases s6 with ⟨e1, e2, e3, e4⟩ | ⟨e1, e2, e3⟩
      · left
        rw [e1]
        refine ⟨by decide, (by first | trivial | rfl), (by first | trivial | rfl), (by first | trivial | rfl), e3, ?_⟩
        simp only [if_true]
        have hst := e4 (halfAt c.base c.half (K.gen + 1) + c.half) (by omega)
        rcases hrec with ⟨_, hl⟩ | ⟨hn, _⟩
        · exact { off := e2, cache := s3, b0 := hb0, h0 := hh0, h1 := hh1, len := by rw [s4]; exact hlen, l0 := by show 0 ≤ c.laid + 1; omega, t0 := ht0, t1 := ht1, few := by omega, wr := by omega, lk := by show c.laid + 1 ≤ _; omega, gk := by show K.gen + 1 ≤ _; omega,
                  a0 := by show (0 : Int) ≤ (cntN after.size : Int); omega, a1 := hbig, rl := by show ((0 : Nat) : Int) ≤ (cntN after.size : Int); omega, none := fun hz => absurd hz (by show ¬ K.gen + 1 = 0; omega), log := hl,
                  ends := by rw [stamp_next c _ rfl]; exact s2 }
        · exact absurd hst hn
      · right
        rw [e1]
        refine ⟨(by first | trivial | rfl), (by first | trivial | rfl), (by first | trivial | rfl), e2, ?_⟩
        rcases hrec with ⟨_, hl⟩ | ⟨_, hl⟩
        · refine ⟨_, .inr rfl, fun b hb hb1 => ?_⟩
          exact { off := rfl, cache := s3, b0 := hb0, h0 := hh0, h1 := hh1, len := by show _ ≤ (st'.kept.length : Int); rw [s4]; exact hlen, l0 := Int.le_refl _, t0 := by show 0 ≤ b; omega, t1 := hb1, few := by omega, wr := by show st'.writes ≤ _; omega, lk := by show (0 : Int) ≤ _; omega, gk := by show K.gen + 1 ≤ _; omega,
                  a0 := by show (0 : Int) ≤ (cntN after.size : Int); omega, a1 := hbig, rl := by show ((0 : Nat) : Int) ≤ (cntN after.size : Int); omega, none := fun hz => absurd hz (by show ¬ K.gen + 1 = 0; omega), log := hl,
                  ends := fun x hx => ⟨(s2 x hx).1, Int.lt_of_lt_of_le (s2 x hx).2 (hboot b hb)⟩ }
        · refine ⟨K, .inl rfl, fun b hb hb1 => ?_⟩
          exact { off := rfl, cache := s3, b0 := hb0, h0 := hh0, h1 := hh1, len := by show _ ≤ (st'.kept.length : Int); rw [s4]; exact hlen, l0 := Int.le_refl _, t0 := by show 0 ≤ b; omega, t1 := hb1, few := by omega, wr := by show st'.writes ≤ _; omega, lk := by show (0 : Int) ≤ _; omega, gk := by omega,
                  a0 := ha0, a1 := ha1, rl := hrl, none := h.none, log := hl,
                  ends := fun x hx => ⟨(s2 x hx).1, Int.lt_of_lt_of_le (s2 x hx).2 (hboot b hb)⟩ }
    · rw [if_neg hbig, if_pos (show c.half < (cntN after.size : Int) by omega)]
      left
      simp only
      refine ⟨by decide, (by first | trivial | rfl), (by first | trivial | rfl), (by first | trivial | rfl), fun e => e, ?_⟩
      exact { h with few := by omega, wr := by show st.writes ≤ _; omega, lk := by show c.laid ≤ _; omega, gk := by show K.gen ≤ _; omega }
end
end Go.Proofs.Ytbdgmddlghhkjaa

namespace Go.Proofs.Ytbdgmddlghhkjaa
open Go.RowKit

/-- The log in block B, over the disk D, as it stands between the calls. -/
structure LogM (w : World) (base D B k : Nat) (c : PCfg) (K : LogV) (st : Dk) (v : Value) : Prop where
  plog : PlgAt w base D B c K v
  disk : DiskAt w base D st
  inv : InvP k c K st
section
variable {w w' : World} {base D B k : Nat} {c : PCfg} {K : LogV} {st : Dk} {v : Value}
theorem LogM.later (h : LogM w base D B k c K st v) (hb : Below w.heap.size w w') : LogM w' base D B k c K st v := ⟨h.plog.later hb, diskAt_later h.disk hb, h.inv⟩
theorem InvP.args (h : InvP k c K st) : openArg st c.base c.half = false := by
  have h1 := h.h0
  have h2 := h.h1
  have h3 := h.b0
  have h4 := h.len
  unfold openArg
  simp only [Bool.or_eq_false_iff, decide_eq_false_iff_not]
  omega
/-- The first log of a new disk. -/
theorem inv_new {n : Nat} {b half boot : Int} (b0 : 0 ≤ b) (h0 : 1 ≤ half) (h1 : half ≤ 2000) (hl : b + 2 * half ≤ n) (t0 : 0 ≤ boot) (t1 : boot < 4294967296) : InvP 0 ⟨b, half, boot, 0⟩ noLog (newS n) where
  off := rfl
  cache := rfl
  b0 := b0
  h0 := h0
  h1 := h1
  len := by simpa [newS] using hl
  l0 := Int.le_refl _
  t0 := t0
  t1 := t1
  few := by omega
  wr := by simp [newS]
  lk := Int.le_refl _
  gk := Int.le_refl _
  a0 := Int.le_refl _
  a1 := by show (0 : Int) ≤ half; omega
  rl := Int.le_refl _
  none := fun _ => rfl
  log := log_new (fun q => rd_new n q)
  ends := fun s hs => by
    have := ends_new n s hs
    refine ⟨this.1, Int.lt_of_lt_of_le this.2 ?_⟩
    unfold stampV
    simp only
    omega
/-- What is opened is what stands. -/
theorem lopen_is (hd : DiskAt w base D st) {b half boot : Int} (h : InvP k ⟨b, half, boot, 0⟩ K st) :
    Calls Try.prog 10 #[.pointer (some ⟨D, 0, none⟩), .int .i64 b, .int .i64 half, .int .u32 boot] w fun e w' => ∃ B v, e = .returned (.tuple #[.pointer (some ⟨B, 0, none⟩), .int .i64 0]) ∧
      PlgAt w' w.heap.size D B ⟨b, half, boot, 0⟩ K v ∧ Below w.heap.size w w' := by
  refine (popen_is hd b half boot h.args h.off h.cache).mono ?_
  rintro e w1 ⟨B, K1, K2, v, rfl, f1, f2, hp, hb⟩
  rw [h.opens f1 f2] at hp
  exact ⟨B, v, rfl, hp, hb⟩
theorem LogM.armed (h : LogM w base D B k c K st v) (a b : Int) (hd : DiskAt w' base D (armS st a b)) (hp : PlgAt w' base D B c K v) : LogM w' base D B k c K (armS st a b) v := ⟨hp, hd, { h.inv with }⟩
/-- An Append, as the program does it. -/
theorem lappend_is (h : LogM w base D B k c K st v) (hb : base ≤ w.heap.size) (rec after : ByteArray) (hr : rec.size ≤ 50000) (ha : after.size ≤ 50000) :
    Calls Try.prog 11 #[.pointer (some ⟨B, 0, none⟩), .string rec, .string after] w fun e w' => e = .returned (.int .i64 (appP c K st rec after).e) ∧
      DiskAt w' base D (appP c K st rec after).st ∧
      (∃ v', PlgAt w' base D B { c with laid := (appP c K st rec after).laid } (appP c K st rec after).K v' ∧ (∀ g, v'.ownBlock = some g → v.ownBlock = some g ∨ w.heap.size ≤ g)) ∧
      OnlyP (fun i => i = B ∨ v.ownBlock = some i ∨ dskU base w i) w w' := pappend_is h.plog h.disk hb hb h.inv.fit rec after hr ha
/-- What an Append changes lies at the base or above. -/
theorem LogM.low (h : LogM w base D B k c K st v) (ho : OnlyP (fun i => i = B ∨ v.ownBlock = some i ∨ dskU base w i) w w') (hb : base ≤ w.heap.size) : Below base w w' :=
  ho.below hb (fun i hi => by
    rcases hi with rfl | hi | hi
    · exact h.plog.2.1
    · exact (own_type h.plog.2.2 hi).1
    · exact hi.1)
/-- Without a failure, its answer named. -/
theorem lappend_at (h : LogM w base D B k c K st v) (hb : base ≤ w.heap.size) (hz : st.armed = 0) (hk : k < 400) (rec after : ByteArray) (hr : rec.size ≤ 50000) (ha : after.size ≤ 50000) (K' : LogV) (E : Int) (he : appendR (refOf c.half K) rec after = (refOf c.half K', E)) :
    Calls Try.prog 11 #[.pointer (some ⟨B, 0, none⟩), .string rec, .string after] w fun e w' => e = .returned (.int .i64 E) ∧
      (∃ l' st' v', LogM w' base D B (k + 1) { c with laid := l' } K' st' v' ∧ st'.armed = 0 ∧ (∀ g, v'.ownBlock = some g → v.ownBlock = some g ∨ w.heap.size ≤ g)) ∧
      OnlyP (fun i => i = B ∨ v.ownBlock = some i ∨ dskU base w i) w w' ∧ Below base w w' := by
  refine (lappend_is h hb rec after hr ha).mono ?_
  rintro e w1 ⟨rfl, hd, ⟨v', hp, hv⟩, ho⟩
  rcases app_step h.inv (by omega) hk rec after with ⟨_, e1, e2, _, e4, e5⟩ | ⟨_, _, _, e4, _⟩
  · rw [he] at e1 e2
    have e2 : (appP c K st rec after).K = K' := e2
    rw [e2] at hp e5
    exact ⟨by rw [e1], ⟨(appP c K st rec after).laid, (appP c K st rec after).st, v', ⟨hp, hd, e5⟩, e4 hz, hv⟩, ho, h.low ho hb⟩
  · omega
/-- A log that others' doings leave. -/
theorem LogM.mono {b : Nat} (h : PlgAt w base D B c K v) (hb : b ≤ base) (hd : DiskAt w b D st) (hi : InvP k c K st) : LogM w b D B k c K st v := ⟨h.mono hb, hd, hi⟩
theorem lgen_is (h : PlgAt w base D B c K v) {g : Int} (hg : K.gen = g) : Calls Try.prog 14 #[.pointer (some ⟨B, 0, none⟩)] w fun e w' => e = .returned (.int .i64 g) ∧ w = w' := by
  subst hg; exact pgen_is h
theorem lbase_is (h : PlgAt w base D B c K v) {s : ByteArray} (hg : K.bs = s) : Calls Try.prog 15 #[.pointer (some ⟨B, 0, none⟩)] w fun e w' => e = .returned (.string s) ∧ w = w' := by
  subst hg; exact pbase_is h
theorem lroom_is (h : PlgAt w base D B c K v) {r : Int} (hg : roomV c.half K = r) : Calls Try.prog 17 #[.pointer (some ⟨B, 0, none⟩)] w fun e w' => e = .returned (.int .i64 r) ∧ w = w' := by
  subst hg; exact proom_is h
theorem lrecords_is (h : PlgAt w base D B c K v) (hn : K.recs.length ≤ 100000) {l : List ByteArray} (hl : K.recs = l) {n : Nat} (hnn : l.length = n) :
    Calls Try.prog 16 #[.pointer (some ⟨B, 0, none⟩)] w fun e w' => ∃ A' c', e = .returned (.slice A' n c') ∧ TextsAt w' A' l ∧ Below w.heap.size w w' ∧ w'.ownsRow w.heap.size 9 1 (.slice A' n c') n (txV l) := by
  subst hl hnn; exact precords_is h hn
end

/-- The document's log, its row and its blocks named. -/
structure RLogM (w : World) (P : Nat → Prop) (R : Nat) (L : LogR) (u : Value) : Prop where
  lt : ∀ i, P i → i < w.heap.size
  r : P R
  at_ : w.heap[R]? = some (.cells #[.int .i64 L.gen, .int .i64 L.half, .string L.bs, u, .int .i64 L.at_] 37 (0, 0))
  row : ∀ g, u.ownBlock = some g → P g
  own : w.ownsRow 0 9 1 u L.recs.length (txV L.recs)
section
variable {w w' : World} {base D B k R : Nat} {c : PCfg} {K : LogV} {st : Dk} {v u : Value} {P Q : Nat → Prop} {L : LogR}
theorem RLogAt.named (h : RLogAt w P R L) : ∃ u, RLogM w P R L u := by
  obtain ⟨h1, h2, u, h3, h4, h5⟩ := h
  exact ⟨u, h1, h2, h3, h4, h5⟩
theorem RLogM.log (h : RLogM w P R L u) : RLogAt w P R L := ⟨h.lt, h.r, u, h.at_, h.row, h.own⟩
/-- Its two blocks alone. -/
def twoB (R : Nat) (u : Value) : Nat → Prop := fun i => i = R ∨ u.ownBlock = some i
theorem RLogM.two (h : RLogM w P R L u) : RLogM w (twoB R u) R L u where
  lt := fun i hi => by
    rcases hi with rfl | hi
    · exact h.lt _ h.r
    · exact h.lt i (h.row i hi)
  r := .inl rfl
  at_ := h.at_
  row := fun _ hg => .inr hg
  own := h.own
theorem RLogM.type (h : RLogM w P R L u) {i : Nat} (hi : twoB R u i) : ∃ cs t, w.heap[i]? = some (.cells cs t (0, 0)) ∧ (t = 37 ∨ t = 9) := by
  rcases hi with rfl | hi
  · exact ⟨_, _, h.at_, .inl rfl⟩
  · obtain ⟨_, cs, e⟩ := own_type h.own hi
    exact ⟨cs, _, e, .inr rfl⟩
/-- The log's doings don't touch it. -/
theorem RLogM.frame (h : RLogM w P R L u) (ho : OnlyP Q w w') (hd : ∀ i, twoB R u i → ¬ Q i) : RLogM w' P R L u where
  lt := fun i hi => Nat.lt_of_lt_of_le (h.lt i hi) ho.size
  r := h.r
  at_ := (ho.block R (h.lt R h.r) (hd R (.inl rfl))).trans h.at_
  row := h.row
  own := own_only h.own ho (fun g hg => hd g (.inr hg))
theorem RLogM.apart (h : RLogM w P R L u) (hp : PlgAt w base D B c K v) (hv : ∀ g, v.ownBlock = some g → ¬ P g) {b : Nat} : ∀ i, twoB R u i → ¬ (i = B ∨ v.ownBlock = some i ∨ dskU b w i) := fun i hi => by
  obtain ⟨cs, t, e, ht⟩ := h.type hi
  rintro (rfl | h2 | ⟨_, cs', t', m, e', ht'⟩)
  · rw [hp.1] at e
    injection e with e
    injection e with _ e
    rcases ht with ht | ht <;> rw [ht] at e <;> exact absurd e (by decide)
  · refine hv i h2 ?_
    rcases hi with rfl | hi
    · exact h.r
    · exact h.row i hi
  · rw [e'] at e
    injection e with e
    injection e with _ e
    rw [e] at ht'
    rcases ht with ht | ht <;> rw [ht] at ht' <;> exact absurd ht' (by decide)
theorem RLogM.below (h : RLogM w P R L u) (hb : Below w.heap.size w w') : RLogM w' P R L u :=
  h.frame (Q := fun _ => False) ⟨hb.os, hb.tape, hb.output, hb.size, fun i hi _ => hb.block i hi⟩ (fun _ _ => id)
/-- What the document's calls change is neither the disk nor the log. -/
theorem LogM.apart (h : LogM w base D B k c K st v) (hr : RLogM w P R L u) (hB : ¬ P B) (hv : ∀ g, v.ownBlock = some g → ¬ P g) (ho : OnlyP (twoB R u) w w') : LogM w' base D B k c K st v := by
  have hP : ∀ i, twoB R u i → P i := fun i hi => by
    rcases hi with rfl | hi
    · exact hr.r
    · exact hr.row i hi
  refine ⟨h.plog.frame ho (fun q => hB (hP _ q)) (fun g hg q => hv g hg (hP _ q)), diskAt_only h.disk ho (fun i cs t m hi he => ?_), h.inv⟩
  obtain ⟨cs', t', e, ht⟩ := hr.type hi
  rw [he] at e
  injection e with e
  injection e with _ e
  rcases ht with ht | ht <;> rw [e, ht] <;> decide
theorem rappend_is (h : RLogM w P R L u) (rec after : ByteArray) (hr : rec.size ≤ 100000) (ha : after.size ≤ 100000)
    (b1 : 0 ≤ L.gen) (b2 : L.gen ≤ 2147483647) (b3 : 0 ≤ L.at_) (b4 : L.at_ ≤ 100000) (b5 : 0 ≤ L.half) (b6 : L.half ≤ 100000) (b7 : L.recs.length ≤ 100000) :
    Calls Try.prog 12 #[.pointer (some ⟨R, 0, none⟩), .string rec, .string after] w fun e w' => e = .returned (.int .i64 (appendR L rec after).2) ∧
      (∃ u', RLogM w' (growP P w w') R (appendR L rec after).1 u') ∧ OnlyP (twoB R u) w w' := by
  refine (refappend_is h.two.log rec after hr ha b1 b2 b3 b4 b5 b6 b7).mono ?_
  rintro e w1 ⟨rfl, hl, ho⟩
  obtain ⟨u', hu⟩ := hl.named
  refine ⟨rfl, ⟨u', ⟨fun i hi => hi.2, ⟨.inl h.r, hu.r.2⟩, hu.at_, fun g hg => ⟨?_, (hu.row g hg).2⟩, hu.own⟩⟩, ho⟩
  rcases (hu.row g hg).1 with (rfl | q) | q
  · exact .inl h.r
  · exact .inl (h.row g q)
  · exact .inr q
theorem growP_not {P : Nat → Prop} {i : Nat} (h : ¬ P i) (hi : i < w.heap.size) : ¬ growP P w w' i := fun q => by
  rcases q.1 with q | q
  · exact h q
  · omega
theorem PlgAt.blt (h : PlgAt w base D B c K v) : B < w.heap.size := (Array.getElem?_eq_some_iff.1 h.1).1
theorem PlgAt.vlt (h : PlgAt w base D B c K v) : ∀ g, v.ownBlock = some g → g < w.heap.size := fun g hg => by
  obtain ⟨_, cs, e⟩ := own_type h.2.2 hg
  exact (Array.getElem?_eq_some_iff.1 e).1
end
end Go.Proofs.Ytbdgmddlghhkjaa
