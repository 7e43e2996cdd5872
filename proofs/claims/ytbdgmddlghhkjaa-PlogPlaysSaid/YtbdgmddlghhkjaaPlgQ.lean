/-
  Plain words of logs: where a text stands, and what a failure of power leaves of it. No program is named here. Plain words of logs, on: what a text that was written, whole or not, with a stamp that is new, leaves; logs as they stand, and what keeps them through failures. No program is named here.
-/
import Derived.Test.YtbdgmddlghhkjaaSecQ
namespace Go.Proofs.Ytbdgmddlghhkjaa

/-- A text stands at a place: all its pieces, of one stamp. -/
def Stands (rd : Int → ByteArray) (at_ end_ gen no : Int) (s : ByteArray) : Prop :=
  ∃ stamp : Int, 0 ≤ stamp ∧ stamp < 18446744073709551616 ∧ layOk s gen no = true ∧ at_ + cntN s.size ≤ end_ ∧ ∀ i : Nat, i < cntN s.size → readP (rd (at_ + i)) = some (pieceI s stamp gen no i)

theorem nextF_lay {rd : Int → ByteArray} {s : ByteArray} {stamp gen no at_ end_ : Int} (hp : ∀ i : Nat, i < cntN s.size → readP (rd (at_ + i)) = some (pieceI s stamp gen no i)) (hend : at_ + cntN s.size ≤ end_) :
    ∀ (d i f : Nat) (first : Option Pc), i + d = cntN s.size → 0 < d → d ≤ f → (∀ q, first = some q → q.stamp = stamp ∧ q.tot = cntN s.size) →
      nextF rd at_ end_ gen no f i first (joinP s i) = some (s, at_ + cntN s.size)
  | 0, _, _, _, _, hd, _, _ => absurd hd (by omega)
  | d + 1, i, 0, _, _, _, hf, _ => absurd hf (by omega)
  | d + 1, i, f + 1, first, hi, _, hf, hq => by
    have hlt : i < cntN s.size := by omega
    obtain ⟨hs1, hs2⟩ := piece_size (s := s) (stamp := stamp) (gen := gen) (no := no) (i := i)
    have hq2 : (first.getD (pieceI s stamp gen no i)).stamp = stamp ∧ (first.getD (pieceI s stamp gen no i)).tot = cntN s.size := by
      cases first with
      | none => exact ⟨rfl, rfl⟩
      | some q => exact hq q rfl
    unfold nextF
    rw [if_neg (by omega), hp i hlt]
    simp only
    rw [if_pos ⟨rfl, rfl, rfl, hq2.1.symm, hq2.2.symm, fun h => hs1 (by simp only [pieceI] at h; omega), fun h => hs2 h hlt⟩, joinP_next]
    by_cases hl : d = 0
    · have e1 : (i : Int) = (pieceI s stamp gen no i).tot - 1 := by show (i : Int) = ((cntN s.size : Nat) : Int) - 1; omega
      have e2 : at_ + (i : Int) + 1 = at_ + cntN s.size := by omega
      rw [if_pos e1, show i + 1 = cntN s.size by omega, joinP_all, e2]
    · have e1 : ¬ (i : Int) = (pieceI s stamp gen no i).tot - 1 := by show ¬ (i : Int) = ((cntN s.size : Nat) : Int) - 1; omega
      rw [if_neg e1]
      exact nextF_lay hp hend d (i + 1) f _ (by omega) (by omega) (by omega) (fun q e => by obtain rfl := Option.some.inj e; exact hq2)
theorem joinP_none (s : ByteArray) : joinP s 0 = ⟨#[]⟩ := by
  apply bl_inj
  rw [joinP, bl_extract]
  simp [bl]
theorem next_stands {rd : Int → ByteArray} {s : ByteArray} {gen no at_ end_ : Int} (h : Stands rd at_ end_ gen no s) : nextP rd at_ end_ gen no = some (s, at_ + cntN s.size) := by
  obtain ⟨stamp, _, _, _, he, hp⟩ := h
  have hc := cnt_pos s.size
  have := nextF_lay hp he (cntN s.size) 0 (end_ - at_).toNat none (by omega) (by omega) (by omega) (fun q h => by cases h)
  rw [joinP_none] at this
  exact this

/-- What a search has gone through. -/
structure Gone (rd : Int → ByteArray) (at_ gen no : Int) (stamp tot : Int) (i : Nat) (acc : ByteArray) : Prop where
  size : acc.size = 37 * i
  at_ : ∀ j : Nat, j < i → ∃ p, readP (rd (at_ + j)) = some p ∧ p.gen = gen ∧ p.no = no ∧ p.idx = j ∧ p.stamp = stamp ∧ p.tot = tot ∧ p.data = acc.extract (37 * j) (37 * j + 37)
theorem extract_left (a b : ByteArray) (i j : Nat) (h : j ≤ a.size) : (a ++ b).extract i j = a.extract i j := by
  apply bl_inj
  rw [bl_extract, bl_extract, bl_append, List.take_append_of_le_length (by rw [bl_len]; exact h)]
theorem extract_right (a b : ByteArray) {i : Nat} (h : i = a.size) : (a ++ b).extract i (a ++ b).size = b := by
  apply bl_inj
  rw [bl_extract, bl_append, List.take_of_length_le (by rw [← bl_append, bl_len]; exact Nat.le_refl _), List.drop_append, List.drop_eq_nil_of_le (by rw [bl_len]; omega), bl_len, h]
  simp
theorem readP_ok {b : ByteArray} {p : Pc} (h : readP b = some p) : p.Ok ∧ p.Fits := by
  obtain ⟨hs, he, hr, _⟩ := readP_some h
  refine ⟨(rightP_iff p).1 hr, ?_⟩
  have r0 := valB_range (s := b.extract 0 8) (k := 8) (by rw [ByteArray.size_extract]; omega)
  rw [he]
  exact ⟨r0.1, by have := r0.2; simp at this; exact this⟩
theorem Gone.more {rd : Int → ByteArray} {at_ gen no stamp tot : Int} {i : Nat} {acc : ByteArray} (hg : Gone rd at_ gen no stamp tot i acc) {p : Pc} (hr : readP (rd (at_ + i)) = some p) (h1 : p.gen = gen) (h2 : p.no = no) (h3 : p.idx = i) (h4 : p.stamp = stamp) (h5 : p.tot = tot) (hd : p.data.size = 37) :
    Gone rd at_ gen no stamp tot (i + 1) (acc ++ p.data) := by
  have hs := hg.size
  refine ⟨by rw [ByteArray.size_append]; omega, fun j hj => ?_⟩
  by_cases e : j = i
  · subst e
    refine ⟨p, hr, h1, h2, h3, h4, h5, ?_⟩
    have := extract_right acc p.data (i := 37 * j) hs.symm
    rw [ByteArray.size_append, show acc.size + p.data.size = 37 * j + 37 by omega] at this
    exact this.symm
  · obtain ⟨q, a1, a2, a3, a4, a5, a6, a7⟩ := hg.at_ j (by omega)
    exact ⟨q, a1, a2, a3, a4, a5, a6, by rw [a7, extract_left _ _ _ _ (by omega)]⟩
theorem Gone.last {rd : Int → ByteArray} {at_ end_ gen no stamp tot : Int} {i : Nat} {acc : ByteArray} (hg : Gone rd at_ gen no stamp tot i acc) {p : Pc} (hr : readP (rd (at_ + i)) = some p) (h1 : p.gen = gen) (h2 : p.no = no) (h3 : p.idx = i) (h4 : p.stamp = stamp) (h5 : p.tot = tot)
    (hl : (i : Int) = p.tot - 1) (hd : 0 < i → p.data.size ≠ 0) (he : at_ + i < end_) : Stands rd at_ end_ gen no (acc ++ p.data) ∧ at_ + i + 1 = at_ + cntN (acc ++ p.data).size := by
  have hs := hg.size
  obtain ⟨hok, hf⟩ := readP_ok hr
  have h37 := hok.d
  have hsz : (acc ++ p.data).size = 37 * i + p.data.size := by rw [ByteArray.size_append]; omega
  have hc : cntN (acc ++ p.data).size = i + 1 := by
    rw [hsz]
    unfold cntN
    by_cases h0 : i = 0
    · rw [if_pos (by omega)]; omega
    · have := hd (by omega)
      rw [if_neg (by omega)]
      omega
  have hpi : p = pieceI (acc ++ p.data) stamp gen no i := by
    have hx := extract_right acc p.data (i := 37 * i) hs.symm
    obtain ⟨a1, a2, a3, a4, a5, a6⟩ := p
    simp only at h1 h2 h3 h4 h5 hl hx hsz hc
    subst h1 h2 h3 h4 h5
    unfold pieceI
    rw [hc, hsz, show min (37 * i + a6.size) (37 * i) = 37 * i by omega, show min (37 * i + a6.size) (37 * i + 37) = 37 * i + a6.size by simp only at h37; omega, ← hsz, hx]
    simp only [Pc.mk.injEq, true_and, and_true]
    omega
  refine ⟨⟨stamp, by rw [← h4]; exact hf.s0, by rw [← h4]; exact hf.s1, ?_, by omega, fun j hj => ?_⟩, by omega⟩
  · have := piece_right (s := acc ++ p.data) (stamp := stamp) (gen := gen) (no := no) (i := i) (by omega)
    rw [← this, ← hpi]
    exact (rightP_iff p).2 hok
  · by_cases e : j = i
    · subst e
      rw [← hpi]; exact hr
    · obtain ⟨q, a1, a2, a3, a4, a5, a6, a7⟩ := hg.at_ j (by omega)
      rw [a1]
      congr 1
      obtain ⟨b1, b2, b3, b4, b5, b6⟩ := q
      simp only at a2 a3 a4 a5 a6 a7
      subst a2 a3 a4 a5 a6 a7
      unfold pieceI
      rw [hc, hsz, show min (37 * i + p.data.size) (37 * j) = 37 * j by omega, show min (37 * i + p.data.size) (37 * j + 37) = 37 * j + 37 by omega, extract_left _ _ _ _ (by omega)]
      simp only [Pc.mk.injEq, true_and, and_true]
      omega
theorem nextF_stands {rd : Int → ByteArray} {at_ end_ gen no : Int} {s : ByteArray} {nx : Int} :
    ∀ (f i : Nat) (first : Option Pc) (acc : ByteArray) (stamp tot : Int), (first = none ↔ i = 0) → (∀ q, first = some q → q.stamp = stamp ∧ q.tot = tot) → Gone rd at_ gen no stamp tot i acc →
      nextF rd at_ end_ gen no f i first acc = some (s, nx) → Stands rd at_ end_ gen no s ∧ nx = at_ + cntN s.size
  | 0, _, _, _, _, _, _, _, _, h => by cases h
  | f + 1, i, first, acc, stamp, tot, hfi, hq, hg, h => by
    unfold nextF at h
    by_cases he : end_ ≤ at_ + i
    · rw [if_pos he] at h; cases h
    rw [if_neg he] at h
    cases hr : readP (rd (at_ + i)) with
    | none => rw [hr] at h; cases h
    | some p =>
      rw [hr] at h
      simp only at h
      by_cases hc : p.gen = gen ∧ p.no = no ∧ p.idx = i ∧ p.stamp = (first.getD p).stamp ∧ p.tot = (first.getD p).tot ∧ ((i : Int) < p.tot - 1 → p.data.size = 37) ∧ (0 < i → p.data.size ≠ 0)
      rotate_left
      · rw [if_neg hc] at h; cases h
      rw [if_pos hc] at h
      obtain ⟨c1, c2, c3, c4, c5, c6, c7⟩ := hc
      -- the stamp and the number of the first one
      obtain ⟨st, tt, hst, htt, hg', hq'⟩ : ∃ st tt : Int, p.stamp = st ∧ p.tot = tt ∧ Gone rd at_ gen no st tt i acc ∧ (first.getD p).stamp = st ∧ (first.getD p).tot = tt := by
        cases first with
        | none =>
          have h0 := hfi.1 rfl
          refine ⟨p.stamp, p.tot, rfl, rfl, ⟨hg.size, fun j hj => absurd hj (by omega)⟩, rfl, rfl⟩
        | some q =>
          obtain ⟨e1, e2⟩ := hq q rfl
          exact ⟨stamp, tot, by rw [c4]; exact e1, by rw [c5]; exact e2, hg, e1, e2⟩
      obtain ⟨hok, _⟩ := readP_ok hr
      by_cases hl : (i : Int) = p.tot - 1
      · rw [if_pos hl] at h
        have h := Option.some.inj h
        obtain ⟨e1, e2⟩ := Prod.mk.inj h
        have := hg'.last (end_ := end_) hr c1 c2 c3 hst htt hl c7 (by omega)
        rw [e1] at this
        exact ⟨this.1, by rw [← e2]; exact this.2⟩
      · rw [if_neg hl] at h
        have hi1 := hok.i1
        exact nextF_stands f (i + 1) _ _ st tt (by simp) (fun q e => by obtain rfl := Option.some.inj e; exact hq') (hg'.more hr c1 c2 c3 hst htt (c6 (by omega))) h
/-- A text stands there just if it is found there. -/
theorem next_iff {rd : Int → ByteArray} {at_ end_ gen no : Int} {s : ByteArray} {nx : Int} : nextP rd at_ end_ gen no = some (s, nx) ↔ Stands rd at_ end_ gen no s ∧ nx = at_ + cntN s.size := by
  constructor
  · intro h
    exact nextF_stands _ 0 none ⟨#[]⟩ 0 0 (by simp) (fun q e => by cases e) ⟨rfl, fun j hj => absurd hj (by omega)⟩ h
  · rintro ⟨h, rfl⟩
    exact next_stands h
theorem stands_one {rd : Int → ByteArray} {at_ end_ gen no : Int} {s t : ByteArray} (h : Stands rd at_ end_ gen no s) (k : Stands rd at_ end_ gen no t) : s = t := by
  have h1 := next_stands h
  rw [next_stands k] at h1
  exact (Prod.mk.inj (Option.some.inj h1)).1.symm
/-- What stands hangs on its own sectors alone. -/
theorem stands_congr {rd rd' : Int → ByteArray} {at_ end_ gen no : Int} {s : ByteArray} (h : Stands rd at_ end_ gen no s) (he : ∀ q, at_ ≤ q → q < at_ + cntN s.size → rd' q = rd q) : Stands rd' at_ end_ gen no s := by
  obtain ⟨st, h1, h2, h3, h4, h5⟩ := h
  exact ⟨st, h1, h2, h3, h4, fun i hi => by rw [he _ (by omega) (by omega)]; exact h5 i hi⟩
end Go.Proofs.Ytbdgmddlghhkjaa

namespace Go.Proofs.Ytbdgmddlghhkjaa

/-- Some sectors from a place on were written, or torn; all else is as it was. -/
def HitAt (rd rd' : Int → ByteArray) (at_ : Int) (n : Nat) (T : Nat → ByteArray) : Prop :=
  ∀ q, rd' q = rd q ∨ ∃ j : Nat, j < n ∧ q = at_ + j ∧ (rd' q = T j ∨ readP (rd' q) = none)
/-- No piece has this stamp. -/
def FreshAt (rd : Int → ByteArray) (X : Int) : Prop := ∀ q p, readP (rd q) = some p → p.stamp ≠ X
def textT (s : ByteArray) (X gen no : Int) (j : Nat) : ByteArray := printB (pieceI s X gen no j)

theorem join_same {s t : ByteArray} {X gen no : Int} (hc : cntN s.size = cntN t.size) (h : ∀ i : Nat, i < cntN s.size → (pieceI s X gen no i).data = (pieceI t X gen no i).data) : s = t := by
  have key : ∀ i : Nat, i ≤ cntN s.size → joinP s i = joinP t i := by
    intro i
    induction i with
    | zero => intro _; rw [joinP_none, joinP_none]
    | succ i ih =>
      intro hi
      rw [← joinP_next s X gen no i, ← joinP_next t X gen no i, ih (by omega), h i (by omega)]
  have := key (cntN s.size) (Nat.le_refl _)
  rw [joinP_all, hc, joinP_all] at this
  exact this

/-- What stands afterwards stood before, or is the new text, at its place. -/
theorem hit_stands {rd rd' : Int → ByteArray} {at_ : Int} {n : Nat} {s : ByteArray} {X gen no : Int} (hn : n = cntN s.size) (hX0 : 0 ≤ X) (hX1 : X < 18446744073709551616) (hok : layOk s gen no = true)
    (hf : FreshAt rd X) (hh : HitAt rd rd' at_ n (textT s X gen no)) {a' e' g' o' : Int} {t : ByteArray} (ht : Stands rd' a' e' g' o' t) :
    Stands rd a' e' g' o' t ∨ (a' = at_ ∧ g' = gen ∧ o' = no ∧ t = s) := by
  obtain ⟨Y, y0, y1, hlo, hle, hp⟩ := ht
  have hT : ∀ j : Nat, j < n → readP (textT s X gen no j) = some (pieceI s X gen no j) := fun j hj => piece_read (by omega) hok hX0 hX1
  by_cases hY : Y = X
  · right
    subst hY
    -- each piece is one of the new ones
    have hnew : ∀ i : Nat, i < cntN t.size → ∃ j : Nat, j < n ∧ a' + i = at_ + j ∧ pieceI t Y g' o' i = pieceI s Y gen no j := by
      intro i hi
      have hpi := hp i hi
      rcases hh (a' + i) with h | ⟨j, hj, hq, h | h⟩
      · rw [h] at hpi
        exact absurd rfl (hf _ _ hpi)
      · rw [h, hT j hj] at hpi
        exact ⟨j, hj, hq, (Option.some.inj hpi).symm⟩
      · rw [h] at hpi; cases hpi
    have hc := cnt_pos t.size
    obtain ⟨j0, hj0, hq0, he0⟩ := hnew 0 (by omega)
    unfold pieceI at he0
    simp only [Pc.mk.injEq] at he0
    obtain ⟨_, e2, e3, e4, e5, _⟩ := he0
    have hj00 : j0 = 0 := by omega
    subst hj00
    refine ⟨by omega, e2, e3, ?_⟩
    subst e2 e3
    refine join_same (X := Y) (gen := g') (no := o') (by omega) (fun i hi => ?_)
    obtain ⟨j, hj, hq, he⟩ := hnew i hi
    have : i = j := by
      have := congrArg Pc.idx he
      simp only [pieceI] at this
      omega
    subst this
    exact congrArg Pc.data he
  · left
    refine ⟨Y, y0, y1, hlo, hle, fun i hi => ?_⟩
    have hpi := hp i hi
    rcases hh (a' + i) with h | ⟨j, hj, hq, h | h⟩
    · rw [← h]; exact hpi
    · rw [h, hT j hj] at hpi
      exact absurd (congrArg Pc.stamp (Option.some.inj hpi)).symm hY
    · rw [h] at hpi; cases hpi

/-- Records, one behind the other, as far as they go. -/
inductive RecsStand (rd : Int → ByteArray) (e g : Int) : Int → Int → List ByteArray → Int → Prop
  | nil {a no : Int} : (¬ ∃ t, Stands rd a e g no t) → RecsStand rd e g a no [] a
  | cons {a no nx : Int} {s : ByteArray} {l : List ByteArray} : Stands rd a e g no s → RecsStand rd e g (a + cntN s.size) (no + 1) l nx → RecsStand rd e g a no (s :: l) nx
section
variable {rd rd' : Int → ByteArray} {e g a no nx : Int} {l : List ByteArray}
theorem RecsStand.le (h : RecsStand rd e g a no l nx) : a ≤ nx := by
  induction h with
  | nil _ => exact Int.le_refl _
  | cons _ _ ih => omega
theorem RecsStand.stop (h : RecsStand rd e g a no l nx) : ¬ ∃ t, Stands rd nx e g (no + l.length) t := by
  induction h with
  | nil hn => simpa using hn
  | @cons a no nx s l _ _ ih =>
    have e1 : no + ((s :: l).length : Int) = no + 1 + (l.length : Int) := by simp; omega
    rw [e1]; exact ih
theorem RecsStand.congr (h : RecsStand rd e g a no l nx) (he : ∀ q, a ≤ q → q < nx → rd' q = rd q) (hs : ¬ ∃ t, Stands rd' nx e g (no + l.length) t) : RecsStand rd' e g a no l nx := by
  induction h with
  | nil _ => exact .nil (by simpa using hs)
  | @cons a no nx s l h1 h2 ih =>
    have hle := h2.le
    have hc := cnt_pos s.size
    have e1 : no + ((s :: l).length : Int) = no + 1 + (l.length : Int) := by simp; omega
    rw [e1] at hs
    exact .cons (stands_congr h1 (fun q q1 q2 => he q q1 (by omega))) (ih (fun q q1 q2 => he q (by omega) q2) hs)
theorem RecsStand.snoc {s : ByteArray} (h : RecsStand rd e g a no l nx) (he : ∀ q, a ≤ q → q < nx → rd' q = rd q) (hs : Stands rd' nx e g (no + l.length) s) (hn : ¬ ∃ t, Stands rd' (nx + cntN s.size) e g (no + l.length + 1) t) : RecsStand rd' e g a no (l ++ [s]) (nx + cntN s.size) := by
  induction h with
  | nil _ => exact .cons (by simpa using hs) (.nil (by simpa using hn))
  | @cons a no nx s' l h1 h2 ih =>
    have hle := h2.le
    have e1 : no + ((s' :: l).length : Int) = no + 1 + (l.length : Int) := by simp; omega
    rw [e1] at hs hn
    exact .cons (stands_congr h1 (fun q q1 q2 => he q q1 (by omega))) (ih (fun q q1 q2 => he q (by have := cnt_pos s'.size; omega) q2) hs hn)
end

/-- Where the half of a gen begins. -/
def halfAt (base half g : Int) : Int := if g % 2 = 1 then base else base + half
theorem halfAt_two (base half g : Int) : halfAt base half (g + 1 + 1) = halfAt base half g := by unfold halfAt; split <;> split <;> omega
theorem halfAt_cases (base half g : Int) : (halfAt base half g = base ∧ halfAt base half (g + 1) = base + half) ∨ (halfAt base half g = base + half ∧ halfAt base half (g + 1) = base) := by unfold halfAt; split <;> split <;> omega

/-- The log that stands, and what keeps it: behind it no piece of its gen has a later number; in the other half a piece of the next gen is a beginning's. -/
structure LogOK (rd : Int → ByteArray) (base half : Int) (g : Int) (bs : ByteArray) (recs : List ByteArray) (at_ : Int) : Prop where
  g0 : 0 ≤ g
  own : 0 < g → Stands rd (halfAt base half g) (halfAt base half g + half) g 0 bs ∧ RecsStand rd (halfAt base half g + half) g (halfAt base half g + cntN bs.size) 1 recs at_
  top : ∀ g' t, 1 ≤ g' → Stands rd (halfAt base half g') (halfAt base half g' + half) g' 0 t → g' ≤ g
  pown : ∀ q p, halfAt base half g ≤ q → q < halfAt base half g + half → readP (rd q) = some p → p.gen ≤ g ∧ (p.gen = g → at_ ≤ q → p.no ≤ recs.length + 1)
  poth : ∀ q p, halfAt base half (g + 1) ≤ q → q < halfAt base half (g + 1) + half → readP (rd q) = some p → p.gen ≤ g + 1 ∧ (p.gen = g + 1 → p.no = 0)

theorem stands_first {rd : Int → ByteArray} {a e g no : Int} {t : ByteArray} (h : Stands rd a e g no t) : ∃ p, readP (rd a) = some p ∧ p.gen = g ∧ p.no = no ∧ a < e := by
  obtain ⟨Y, _, _, _, h4, h5⟩ := h
  have hc := cnt_pos t.size
  have := h5 0 (by omega)
  rw [show a + ((0 : Nat) : Int) = a by omega] at this
  exact ⟨_, this, rfl, rfl, by omega⟩

section
variable {rd rd' : Int → ByteArray} {base half g at_ X : Int} {bs s : ByteArray} {recs : List ByteArray}
/-- A RECORD MORE, OR NOT. -/
theorem log_record (h : LogOK rd base half g bs recs at_) (hg : 0 < g) (hX0 : 0 ≤ X) (hX1 : X < 18446744073709551616) (hf : FreshAt rd X) (hok : layOk s g (recs.length + 1) = true)
    (hroom : at_ + cntN s.size ≤ halfAt base half g + half) (hh : HitAt rd rd' at_ (cntN s.size) (textT s X g (recs.length + 1))) :
    (Stands rd' at_ (halfAt base half g + half) g (recs.length + 1) s ∧ LogOK rd' base half g bs (recs ++ [s]) (at_ + cntN s.size)) ∨
      (¬ Stands rd' at_ (halfAt base half g + half) g (recs.length + 1) s ∧ LogOK rd' base half g bs recs at_) := by
  obtain ⟨hb, hr⟩ := h.own hg
  have hle := hr.le
  have hcs := cnt_pos s.size
  have hcb := cnt_pos bs.size
  have hst := fun {a' e' g' o' t} (ht : Stands rd' a' e' g' o' t) => hit_stands rfl hX0 hX1 hok hf hh ht
  have hlow : ∀ q, q < at_ → rd' q = rd q := fun q hq => by
    rcases hh q with h | ⟨j, _, hj, _⟩
    · exact h
    · omega
  have hT : ∀ j : Nat, j < cntN s.size → readP (textT s X g (recs.length + 1) j) = some (pieceI s X g (recs.length + 1) j) := fun j hj => piece_read hj hok hX0 hX1
  have hb' : Stands rd' (halfAt base half g) (halfAt base half g + half) g 0 bs := stands_congr hb (fun q _ q2 => hlow q (by omega))
  have htop : ∀ g' t, 1 ≤ g' → Stands rd' (halfAt base half g') (halfAt base half g' + half) g' 0 t → g' ≤ g := fun g' t h1 ht => by
    rcases hst ht with h2 | ⟨_, _, h3, _⟩
    · exact h.top g' t h1 h2
    · omega
  have hpo : ∀ q p, halfAt base half (g + 1) ≤ q → q < halfAt base half (g + 1) + half → readP (rd' q) = some p → p.gen ≤ g + 1 ∧ (p.gen = g + 1 → p.no = 0) := fun q p q1 q2 hp => by
    rcases hh q with hq | ⟨j, hj, hq, _⟩
    · rw [hq] at hp; exact h.poth q p q1 q2 hp
    · rcases halfAt_cases base half g with ⟨e1, e2⟩ | ⟨e1, e2⟩ <;> omega
  have hpw : ∀ q p, halfAt base half g ≤ q → q < halfAt base half g + half → readP (rd' q) = some p → p.gen ≤ g ∧ (p.gen = g → at_ ≤ q → p.no ≤ recs.length + 1) := fun q p q1 q2 hp => by
    rcases hh q with hq | ⟨j, hj, hq, hq2 | hq2⟩
    · rw [hq] at hp; exact h.pown q p q1 q2 hp
    · rw [hq2, hT j hj] at hp
      obtain rfl := Option.some.inj hp
      exact ⟨Int.le_refl _, fun _ _ => Int.le_refl _⟩
    · rw [hq2] at hp; cases hp
  by_cases hA : Stands rd' at_ (halfAt base half g + half) g (recs.length + 1) s
  · left
    refine ⟨hA, ⟨h.g0, fun _ => ⟨hb', ?_⟩, htop, fun q p q1 q2 hp => ?_, hpo⟩⟩
    · refine hr.snoc (fun q _ q2 => hlow q q2) (by rw [show (1 : Int) + (recs.length : Int) = (recs.length : Int) + 1 by omega]; exact hA) ?_
      rintro ⟨t, ht⟩
      rcases hst ht with h2 | ⟨h2, _⟩
      · obtain ⟨p, hp, p1, p2, p3⟩ := stands_first h2
        have := (h.pown _ p (by omega) p3 hp).2 p1 (by omega)
        omega
      · omega
    · obtain ⟨h1, h2⟩ := hpw q p q1 q2 hp
      refine ⟨h1, fun e1 e2 => ?_⟩
      have := h2 e1 (by omega)
      rw [List.length_append]
      simp
      omega
  · right
    refine ⟨hA, ⟨h.g0, fun _ => ⟨hb', hr.congr (fun q _ q2 => hlow q q2) ?_⟩, htop, hpw, hpo⟩⟩
    rintro ⟨t, ht⟩
    rcases hst ht with h2 | ⟨_, _, _, rfl⟩
    · exact hr.stop ⟨t, h2⟩
    · rw [show (1 : Int) + (recs.length : Int) = (recs.length : Int) + 1 by omega] at ht
      exact hA ht

/-- A NEW BEGINNING, OR NOT. -/
theorem log_base (h : LogOK rd base half g bs recs at_) (hat : 0 < g → at_ ≤ halfAt base half g + half) (hX0 : 0 ≤ X) (hX1 : X < 18446744073709551616) (hf : FreshAt rd X) (hok : layOk s (g + 1) 0 = true)
    (hroom : (cntN s.size : Int) ≤ half) (hh : HitAt rd rd' (halfAt base half (g + 1)) (cntN s.size) (textT s X (g + 1) 0)) :
    (Stands rd' (halfAt base half (g + 1)) (halfAt base half (g + 1) + half) (g + 1) 0 s ∧ LogOK rd' base half (g + 1) s [] (halfAt base half (g + 1) + cntN s.size)) ∨
      (¬ Stands rd' (halfAt base half (g + 1)) (halfAt base half (g + 1) + half) (g + 1) 0 s ∧ LogOK rd' base half g bs recs at_) := by
  have hcs := cnt_pos s.size
  have hg0 := h.g0
  have hst := fun {a' e' g' o' t} (ht : Stands rd' a' e' g' o' t) => hit_stands rfl hX0 hX1 hok hf hh ht
  have hT : ∀ j : Nat, j < cntN s.size → readP (textT s X (g + 1) 0 j) = some (pieceI s X (g + 1) 0 j) := fun j hj => piece_read hj hok hX0 hX1
  have hown : ∀ q, halfAt base half g ≤ q → q < halfAt base half g + half → rd' q = rd q := fun q q1 q2 => by
    rcases hh q with hq | ⟨j, hj, hq, _⟩
    · exact hq
    · rcases halfAt_cases base half g with ⟨e1, e2⟩ | ⟨e1, e2⟩ <;> omega
  have hpw : ∀ q p, halfAt base half g ≤ q → q < halfAt base half g + half → readP (rd' q) = some p → p.gen ≤ g ∧ (p.gen = g → at_ ≤ q → p.no ≤ recs.length + 1) := fun q p q1 q2 hp => by
    rw [hown q q1 q2] at hp; exact h.pown q p q1 q2 hp
  have hpo : ∀ q p, halfAt base half (g + 1) ≤ q → q < halfAt base half (g + 1) + half → readP (rd' q) = some p → p.gen ≤ g + 1 ∧ (p.gen = g + 1 → p.no = 0) := fun q p q1 q2 hp => by
    rcases hh q with hq | ⟨j, hj, hq, hq2 | hq2⟩
    · rw [hq] at hp; exact h.poth q p q1 q2 hp
    · rw [hq2, hT j hj] at hp
      obtain rfl := Option.some.inj hp
      exact ⟨Int.le_refl _, fun _ => rfl⟩
    · rw [hq2] at hp; cases hp
  by_cases hA : Stands rd' (halfAt base half (g + 1)) (halfAt base half (g + 1) + half) (g + 1) 0 s
  · left
    refine ⟨hA, ⟨by omega, fun _ => ⟨hA, .nil ?_⟩, fun g' t h1 ht => ?_, fun q p q1 q2 hp => ?_, fun q p q1 q2 hp => ?_⟩⟩
    · rintro ⟨t, ht⟩
      rcases hst ht with h2 | ⟨h2, _⟩
      · obtain ⟨p, hp, p1, p2, p3⟩ := stands_first h2
        have := (h.poth _ p (by omega) p3 hp).2 p1
        omega
      · omega
    · rcases hst ht with h2 | ⟨_, h3, _, _⟩
      · have := h.top g' t h1 h2; omega
      · omega
    · obtain ⟨h1, h2⟩ := hpo q p q1 q2 hp
      exact ⟨h1, fun e _ => by have := h2 e; simp; omega⟩
    · rw [halfAt_two] at q1 q2
      obtain ⟨h1, _⟩ := hpw q p q1 q2 hp
      exact ⟨by omega, fun e => by omega⟩
  · right
    refine ⟨hA, ⟨hg0, fun hg => ?_, fun g' t h1 ht => ?_, hpw, hpo⟩⟩
    · obtain ⟨hb, hr⟩ := h.own hg
      have hle := hr.le
      have hcb := cnt_pos bs.size
      have hat' := hat hg
      refine ⟨stands_congr hb (fun q q1 q2 => hown q q1 (by omega)), hr.congr (fun q q1 q2 => hown q (by omega) (by omega)) ?_⟩
      rintro ⟨t, ht⟩
      rcases hst ht with h2 | ⟨_, h3, _, _⟩
      · exact hr.stop ⟨t, h2⟩
      · omega
    · rcases hst ht with h2 | ⟨_, h3, _, h4⟩
      · exact h.top g' t h1 h2
      · subst h3 h4
        exact absurd ht hA
end
end Go.Proofs.Ytbdgmddlghhkjaa
