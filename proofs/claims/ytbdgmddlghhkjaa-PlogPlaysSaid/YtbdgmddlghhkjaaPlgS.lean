/-
  Plain words of logs, on: what a disk keeps of a text's sectors that were written, whole or torn; stamps at the sectors' ends. No program is named here. Plain words of logs, on: a text's sectors written one by one, till the power fails, or flushed; a log that is opened is the one that stands. No program is named here.
-/
import Derived.Test.YtbdgmddlghhkjaaPlgQ
import Derived.Test.YtbdgmddlghhkjaaDiskG
namespace Go.Proofs.Ytbdgmddlghhkjaa

/-- The stamp at a sector's end. -/
def endV (b : ByteArray) : Int := valB (b.extract 56 64)
theorem bl_end {b : ByteArray} (h : b.size = 64) : bl (b.extract 56 64) = (bl b).drop 56 := by
  rw [bl_extract, List.take_of_length_le (by rw [bl_len]; omega)]
theorem endV_print {p : Pc} (h : p.Ok) (hf : p.Fits) : endV (printB p) = p.stamp := by
  have h0 := hf.s0
  have h1 := hf.s1
  rw [endV, valB, bl_end (print_size h.d), bl_print, (print_ends h.d).2, valL_numL, Nat.mod_eq_of_lt (by omega)]
  omega
theorem endV_read {b : ByteArray} {p : Pc} (h : readP b = some p) : endV b = p.stamp := by
  obtain ⟨hok, hf⟩ := readP_ok h
  obtain ⟨_, _, _, he⟩ := readP_some h
  rw [← he, endV_print hok hf]

theorem tear0 {new old : ByteArray} (h2 : old.size = 64) : tearB 0 new old = old := by
  unfold tearB
  apply bl_inj
  rw [bl_append, bl_extract, bl_extract, List.take_zero, List.drop_zero, List.nil_append, List.drop_zero, List.take_of_length_le (by rw [bl_len]; omega)]
theorem endV_tear {k : Nat} {new old : ByteArray} (hk : k ≤ 56) (h1 : new.size = 64) (h2 : old.size = 64) : endV (tearB k new old) = endV old := by
  unfold endV valB
  rw [bl_end (tearB_size (by omega) h1 h2), bl_end h2]
  unfold tearB
  rw [bl_append, bl_extract, bl_extract, List.drop_zero, List.drop_append, List.drop_eq_nil_of_le (by rw [List.length_take]; omega), List.nil_append, List.length_take, bl_len, h1, List.take_of_length_le (by rw [bl_len]; omega), List.drop_drop, show k + (56 - min k 64) = 56 by omega]
/-- A torn sector over one whose end bears another stamp is none. -/
theorem tear_none {p : Pc} (h : p.Ok) (hf : p.Fits) {old : ByteArray} (h2 : old.size = 64) (hne : endV old ≠ p.stamp) {k : Nat} (h8 : 8 ≤ k) (h56 : k ≤ 56) : readP (tearB k (printB p) old) = none := by
  cases hr : readP (tearB k (printB p) old) with
  | none => rfl
  | some q =>
    have he := read_ends hr
    have hp := print_size h.d
    have hd : (bl (tearB k (printB p) old)).drop 56 = (bl old).drop 56 := by
      have := endV_tear h56 hp h2
      unfold tearB
      rw [bl_append, bl_extract, bl_extract, List.drop_zero, List.drop_append, List.drop_eq_nil_of_le (by rw [List.length_take]; omega), List.nil_append, List.length_take, bl_len, hp, List.take_of_length_le (by rw [bl_len]; omega), List.drop_drop]
      congr 1
      omega
    have ht : (bl (tearB k (printB p) old)).take 8 = numL p.stamp.toNat 8 := by
      unfold tearB
      rw [bl_append, bl_extract, List.drop_zero, List.take_append_of_le_length (by rw [List.length_take, bl_len]; omega), List.take_take, show min 8 k = 8 by omega, bl_print, (print_ends h.d).1]
    rw [ht, hd] at he
    exfalso
    apply hne
    have h0 := hf.s0
    have h1 := hf.s1
    rw [endV, valB, bl_end h2, ← he, valL_numL, Nat.mod_eq_of_lt (by omega)]
    omega

/-- What stands at a place of a disk. -/
def rdK (kept : List ByteArray) (q : Int) : ByteArray := if q < 0 ∨ (kept.length : Int) ≤ q then ⟨#[]⟩ else kept.getD q.toNat ⟨#[]⟩
/-- A row of writes, from a place on. -/
def rowC (p : Int) (T : Nat → ByteArray) (m : Nat) : List (Int × ByteArray) := (List.range m).map fun (i : Nat) => (p + (i : Int), T i)
theorem rowC_at {p : Int} {T : Nat → ByteArray} {m k : Nat} (h : k < m) : (rowC p T m)[k]? = some (p + (k : Int), T k) := by simp [rowC, h]
theorem rowC_len (p : Int) (T : Nat → ByteArray) (m : Nat) : (rowC p T m).length = m := by simp [rowC]
theorem rowC_snoc (p : Int) (T : Nat → ByteArray) (m : Nat) : rowC p T (m + 1) = rowC p T m ++ [(p + (m : Int), T m)] := by simp [rowC, List.range_succ]
theorem keptTo_row {f : Nat → Nat} {p : Int} {T : Nat → ByteArray} {m : Nat} {kept : List ByteArray} (h0 : 0 ≤ p) (h1 : p + m ≤ kept.length) :
    ∀ k : Nat, k ≤ m → ∀ q : Nat, (keptTo f (rowC p T m) kept k)[q]? = if p ≤ q ∧ (q : Int) < p + k then (kept[q]?).map (tearB (f (q - p.toNat)) (T (q - p.toNat))) else kept[q]?
  | 0, _, q => by
    rw [if_neg (by omega)]; rfl
  | k + 1, hk, q => by
    have ih := keptTo_row (f := f) (T := T) h0 h1 k (by omega)
    unfold keptTo
    rw [rowC_at (by omega)]
    simp only
    have ep : (p + (k : Int)).toNat = p.toNat + k := by omega
    rw [ep, List.getElem?_set]
    by_cases e : p.toNat + k = q
    · subst e
      have hlt : p.toNat + k < kept.length := by omega
      have hl : p.toNat + k < (keptTo f (rowC p T m) kept k).length := by rw [keptTo_len]; exact hlt
      rw [if_pos rfl, if_pos hl, if_pos (by omega), List.getElem?_eq_getElem hlt]
      have h2 := ih (p.toNat + k)
      rw [if_neg (by omega), List.getElem?_eq_getElem hlt] at h2
      rw [List.getD_eq_getElem?_getD, h2]
      simp
    · rw [if_neg e, ih q]
      by_cases c : p ≤ q ∧ (q : Int) < p + k
      · rw [if_pos c, if_pos (by omega)]
      · rw [if_neg c, if_neg (by omega)]

/-- All ends' stamps are below X. -/
def EndsLow (kept : List ByteArray) (X : Int) : Prop := ∀ s ∈ kept, s.size = 64 ∧ endV s < X
theorem rdK_mem {kept : List ByteArray} {q : Int} {p : Pc} (h : readP (rdK kept q) = some p) : rdK kept q ∈ kept := by
  unfold rdK at h ⊢
  split at h
  · exact absurd (readP_some h).1 (by decide)
  · rename_i hc
    rw [if_neg hc]
    have hlt : q.toNat < kept.length := by omega
    rw [List.getD_eq_getElem?_getD, List.getElem?_eq_getElem hlt]
    exact List.getElem_mem hlt
theorem EndsLow.fresh {kept : List ByteArray} {X : Int} (h : EndsLow kept X) : FreshAt (rdK kept) X := fun q p hp => by
  have := (h _ (rdK_mem hp)).2
  rw [endV_read hp] at this
  omega

theorem rdK_at {kept : List ByteArray} {q : Nat} (h : q < kept.length) : rdK kept q = kept[q] := by
  unfold rdK
  rw [if_neg (by omega), List.getD_eq_getElem?_getD, Int.toNat_natCast, List.getElem?_eq_getElem h]
  rfl
/-- WHAT A DISK KEEPS of a text's first m sectors that were written at p, however much of each. -/
theorem kept_hit {f : Nat → Nat} (hf : ∀ j, f j = 0 ∨ f j = 16 ∨ f j = 32 ∨ f j = 48 ∨ f j = 64) {p : Int} {m : Nat} {kept : List ByteArray} {s : ByteArray} {X gen no : Int} (h0 : 0 ≤ p) (hm : m ≤ cntN s.size) (h1 : p + m ≤ kept.length)
    (hX0 : 0 ≤ X) (hX1 : X < 18446744073709551616) (hok : layOk s gen no = true) (hl : EndsLow kept X) :
    HitAt (rdK kept) (rdK (keptTo f (rowC p (textT s X gen no) m) kept m)) p (cntN s.size) (textT s X gen no) ∧ EndsLow (keptTo f (rowC p (textT s X gen no) m) kept m) (X + 1) := by
  have hk := keptTo_row (f := f) (T := textT s X gen no) h0 h1 m (Nat.le_refl _)
  have hlen := keptTo_len f (rowC p (textT s X gen no) m) kept m
  have hpc : ∀ j, j < cntN s.size → (pieceI s X gen no j).Ok ∧ (pieceI s X gen no j).Fits := fun j hj => ⟨(rightP_iff _).1 ((piece_right hj).trans hok), ⟨hX0, hX1⟩⟩
  constructor
  · intro q
    by_cases hq : q < 0 ∨ (kept.length : Int) ≤ q
    · left
      unfold rdK
      rw [hlen, if_pos hq, if_pos hq]
    · obtain ⟨k, rfl⟩ : ∃ k : Nat, q = k := ⟨q.toNat, by omega⟩
      have hlt : k < kept.length := by omega
      have hlt2 : k < (keptTo f (rowC p (textT s X gen no) m) kept m).length := by omega
      have h2 := hk k
      rw [List.getElem?_eq_getElem hlt2, List.getElem?_eq_getElem hlt] at h2
      rw [rdK_at hlt, rdK_at hlt2]
      by_cases c : p ≤ k ∧ (k : Int) < p + m
      · rw [if_pos c] at h2
        have h2 := Option.some.inj h2
        have hj : k - p.toNat < cntN s.size := by omega
        obtain ⟨hs, he⟩ := hl _ (List.getElem_mem hlt)
        obtain ⟨po, pf⟩ := hpc _ hj
        rcases hf (k - p.toNat) with e | e | e | e | e
        · left
          rw [h2, e, tear0 hs]
        · right
          refine ⟨k - p.toNat, hj, by omega, .inr ?_⟩
          rw [h2, e]
          exact tear_none po pf hs (by show endV _ ≠ X; omega) (by omega) (by omega)
        · right
          refine ⟨k - p.toNat, hj, by omega, .inr ?_⟩
          rw [h2, e]
          exact tear_none po pf hs (by show endV _ ≠ X; omega) (by omega) (by omega)
        · right
          refine ⟨k - p.toNat, hj, by omega, .inr ?_⟩
          rw [h2, e]
          exact tear_none po pf hs (by show endV _ ≠ X; omega) (by omega) (by omega)
        · right
          refine ⟨k - p.toNat, hj, by omega, .inl ?_⟩
          rw [h2, e]
          exact tear64 (print_size po.d) hs
      · rw [if_neg c] at h2
        left
        exact Option.some.inj h2
  · intro t ht
    obtain ⟨k, hlt2, rfl⟩ := List.mem_iff_getElem.1 ht
    have hlt : k < kept.length := by omega
    have h2 := hk k
    rw [List.getElem?_eq_getElem hlt2, List.getElem?_eq_getElem hlt] at h2
    obtain ⟨hs, he⟩ := hl _ (List.getElem_mem hlt)
    by_cases c : p ≤ k ∧ (k : Int) < p + m
    · rw [if_pos c] at h2
      have h2 := Option.some.inj h2
      rw [h2]
      have hj : k - p.toNat < cntN s.size := by omega
      obtain ⟨po, pf⟩ := hpc _ hj
      have hps : (textT s X gen no (k - p.toNat)).size = 64 := print_size po.d
      refine ⟨tearB_size (by rcases hf (k - p.toNat) with e | e | e | e | e <;> omega) hps hs, ?_⟩
      rcases hf (k - p.toNat) with e | e | e | e | e
      · rw [e, endV_tear (by omega) hps hs]; omega
      · rw [e, endV_tear (by omega) hps hs]; omega
      · rw [e, endV_tear (by omega) hps hs]; omega
      · rw [e, endV_tear (by omega) hps hs]; omega
      · rw [e, tear64 hps hs, show endV (textT s X gen no (k - p.toNat)) = X from endV_print po pf]; omega
    · rw [if_neg c] at h2
      rw [Option.some.inj h2]
      exact ⟨hs, by omega⟩
/-- All of it written, and flushed: the text stands there. -/
theorem kept_all {p : Int} {kept : List ByteArray} {s : ByteArray} {X gen no e : Int} (h0 : 0 ≤ p) (h1 : p + cntN s.size ≤ kept.length) (he : p + cntN s.size ≤ e)
    (hX0 : 0 ≤ X) (hX1 : X < 18446744073709551616) (hok : layOk s gen no = true) (hl : EndsLow kept X) : Stands (rdK (keptTo (fun _ => 64) (rowC p (textT s X gen no) (cntN s.size)) kept (cntN s.size))) p e gen no s := by
  refine ⟨X, hX0, hX1, hok, he, fun i hi => ?_⟩
  have hlen := keptTo_len (fun _ => 64) (rowC p (textT s X gen no) (cntN s.size)) kept (cntN s.size)
  have h2 := keptTo_row (f := fun _ => 64) (T := textT s X gen no) h0 h1 (cntN s.size) (Nat.le_refl _) (p.toNat + i)
  have hlt : p.toNat + i < kept.length := by omega
  have hlt2 : p.toNat + i < (keptTo (fun _ => 64) (rowC p (textT s X gen no) (cntN s.size)) kept (cntN s.size)).length := by omega
  rw [if_pos (by omega), List.getElem?_eq_getElem hlt2, List.getElem?_eq_getElem hlt] at h2
  have h2 := Option.some.inj h2
  obtain ⟨po, _⟩ : (pieceI s X gen no i).Ok ∧ (pieceI s X gen no i).Fits := ⟨(rightP_iff _).1 ((piece_right hi).trans hok), ⟨hX0, hX1⟩⟩
  rw [show p + (i : Int) = ((p.toNat + i : Nat) : Int) by omega, rdK_at hlt2, h2, show p.toNat + i - p.toNat = i by omega, tear64 (show (textT s X gen no i).size = 64 from print_size po.d) (hl _ (List.getElem_mem hlt)).1]
  exact piece_read hi hok hX0 hX1
end Go.Proofs.Ytbdgmddlghhkjaa

namespace Go.Proofs.Ytbdgmddlghhkjaa

/-- The first j sectors have been written, one by one. -/
def wroteS (st : Dk) (p : Int) (T : Nat → ByteArray) (j : Nat) : Dk := { st with cache := rowC p T j, writes := st.writes + j, armed := if 0 < st.armed then st.armed - j else st.armed }
theorem wrote_zero {st : Dk} {p : Int} {T : Nat → ByteArray} (hc : st.cache = []) : wroteS st p T 0 = st := by
  obtain ⟨a, b, c, d, e, f⟩ := st
  simp only at hc
  subst hc
  simp [wroteS, rowC]
section
variable {st : Dk} {p : Int} {T : Nat → ByteArray} {j : Nat}
theorem wrote_next (ho : st.off = false) (h0 : 0 ≤ p) (h1 : p + j < st.kept.length) (hs : (T j).size = 64) (ha : st.armed = 0 ∨ (j : Int) + 1 < st.armed) :
    writeE (wroteS st p T j) (p + j) (T j) = 0 ∧ writeS (wroteS st p T j) (p + j) (T j) = wroteS st p T (j + 1) := by
  have hb : outB (wroteS st p T j) (p + j) = false := by
    unfold outB
    rw [show (wroteS st p T j).kept = st.kept from rfl, Bool.or_eq_false_iff, decide_eq_false_iff_not, decide_eq_false_iff_not]
    omega
  have hoff : (wroteS st p T j).off = false := ho
  have harm : ¬ (wroteS st p T j).armed = 1 := by
    simp only [wroteS]
    split <;> omega
  unfold writeE writeS
  rw [hoff, hb]
  simp only [Bool.false_eq_true, if_false, hs, ne_eq, not_true_eq_false]
  rw [if_neg harm, if_neg harm]
  refine ⟨rfl, ?_⟩
  unfold putS wroteS
  simp only [rowC_snoc, Dk.mk.injEq, true_and]
  refine ⟨by omega, ?_⟩
  first
    | omega
    | (split <;> split <;> omega)
theorem wrote_fail (ho : st.off = false) (h0 : 0 ≤ p) (h1 : p + j < st.kept.length) (hs : (T j).size = 64) (ha : st.armed = (j : Int) + 1) :
    writeE (wroteS st p T j) (p + j) (T j) = 5 ∧ (writeS (wroteS st p T j) (p + j) (T j)).off = true ∧ (writeS (wroteS st p T j) (p + j) (T j)).cache = [] ∧
      (writeS (wroteS st p T j) (p + j) (T j)).kept = keptTo (fateF st.bits) (rowC p T (j + 1)) st.kept (j + 1) ∧ (writeS (wroteS st p T j) (p + j) (T j)).writes = st.writes + (j + 1) := by
  have hb : outB (wroteS st p T j) (p + j) = false := by
    unfold outB
    rw [show (wroteS st p T j).kept = st.kept from rfl, Bool.or_eq_false_iff, decide_eq_false_iff_not, decide_eq_false_iff_not]
    omega
  have hoff : (wroteS st p T j).off = false := ho
  have harm : (wroteS st p T j).armed = 1 := by
    simp only [wroteS]
    split <;> omega
  have hoff2 : (putS (wroteS st p T j) (p + j) (T j)).off = false := ho
  have hcc : (putS (wroteS st p T j) (p + j) (T j)).cache = rowC p T (j + 1) := by rw [rowC_snoc]; rfl
  have hw : writeS (wroteS st p T j) (p + j) (T j) = crashS (putS (wroteS st p T j) (p + j) (T j)) st.bits := by
    unfold writeS
    rw [hoff, hb]
    simp only [Bool.false_eq_true, if_false, hs, ne_eq, not_true_eq_false]
    rw [if_pos harm]
    rfl
  refine ⟨?_, ?_⟩
  · unfold writeE
    rw [hoff, hb]
    simp only [Bool.false_eq_true, if_false, hs, ne_eq, not_true_eq_false]
    rw [if_pos harm]
  · rw [hw]
    unfold crashS
    rw [hoff2]
    simp only [Bool.false_eq_true, if_false]
    rw [hcc, rowC_len]
    exact ⟨trivial, trivial, rfl, by simp [putS, wroteS]; omega⟩
theorem wrote_flush (ho : st.off = false) {m : Nat} : flushE (wroteS st p T m) = 0 ∧ (flushS (wroteS st p T m)).kept = keptTo (fun _ => 64) (rowC p T m) st.kept m ∧ (flushS (wroteS st p T m)).cache = [] ∧ (flushS (wroteS st p T m)).off = false := by
  have hoff : (wroteS st p T m).off = false := ho
  unfold flushE flushS
  rw [hoff]
  simp only [Bool.false_eq_true, if_false]
  refine ⟨trivial, ?_, trivial, trivial⟩
  show keptTo _ (rowC p T m) st.kept (rowC p T m).length = _
  rw [rowC_len]
end
theorem fateF_cases (b : Int) (j : Nat) : fateF b j = 0 ∨ fateF b j = 16 ∨ fateF b j = 32 ∨ fateF b j = 48 ∨ fateF b j = 64 := by
  have := fateV_cases b j
  unfold fateF
  omega

theorem recs_one {rd : Int → ByteArray} {e g a no nx : Int} {l : List ByteArray} (h : RecsStand rd e g a no l nx) : ∀ {l' : List ByteArray} {nx' : Int}, RecsStand rd e g a no l' nx' → l = l' ∧ nx = nx' := by
  induction h with
  | nil hn =>
    intro l' nx' k
    cases k with
    | nil _ => exact ⟨rfl, rfl⟩
    | cons h1 _ => exact absurd ⟨_, h1⟩ hn
  | cons h1 _ ih =>
    intro l' nx' k
    cases k with
    | nil hn => exact absurd ⟨_, h1⟩ hn
    | cons k1 k2 =>
      obtain rfl := stands_one h1 k1
      obtain ⟨rfl, rfl⟩ := ih k2
      exact ⟨rfl, rfl⟩

/-- What a log has: its gen, its beginning, its records, how many sectors are taken. -/
structure LogV where
  gen : Int
  bs : ByteArray
  recs : List ByteArray
  at_ : Int
def noLog : LogV := ⟨0, ⟨#[]⟩, [], 0⟩
/-- One half is looked at: it is taken, if it is laid, of its own kind, and newer. -/
def HalfR (rd : Int → ByteArray) (b half par : Int) (cur out : LogV) : Prop :=
  (∃ g s recs nx, 1 ≤ g ∧ g % 2 = par ∧ cur.gen < g ∧ Stands rd b (b + half) g 0 s ∧ RecsStand rd (b + half) g (b + cntN s.size) 1 recs nx ∧ out = ⟨g, s, recs, nx - b⟩) ∨
    ((∀ g s, 1 ≤ g → g % 2 = par → cur.gen < g → ¬ Stands rd b (b + half) g 0 s) ∧ out = cur)
/-- A LOG THAT IS OPENED IS THE ONE THAT STANDS. -/
theorem open_ok {rd : Int → ByteArray} {base half g at_ : Int} {bs : ByteArray} {recs : List ByteArray} (h : LogOK rd base half g bs recs at_) {o1 o2 : LogV} (h1 : HalfR rd base half 1 noLog o1) (h2 : HalfR rd (base + half) half 0 o1 o2) :
    (g = 0 ∧ o2 = noLog) ∨ (0 < g ∧ o2 = ⟨g, bs, recs, at_ - halfAt base half g⟩) := by
  have hg0 := h.g0
  have hodd : ∀ x : Int, x % 2 = 1 → halfAt base half x = base := fun x hx => by unfold halfAt; rw [if_pos hx]
  have hev : ∀ x : Int, x % 2 = 0 → halfAt base half x = base + half := fun x hx => by unfold halfAt; rw [if_neg (by omega)]
  have top1 : ∀ x s, 1 ≤ x → x % 2 = 1 → Stands rd base (base + half) x 0 s → x ≤ g := fun x s hx hp hs => h.top x s hx (by rw [hodd x hp]; exact hs)
  have top2 : ∀ x s, 1 ≤ x → x % 2 = 0 → Stands rd (base + half) (base + half + half) x 0 s → x ≤ g := fun x s hx hp hs => h.top x s hx (by rw [hev x hp]; exact hs)
  by_cases hz : g = 0
  · left
    refine ⟨hz, ?_⟩
    have e1 : o1 = noLog := by
      rcases h1 with ⟨x, s, _, _, x1, x2, _, x4, _⟩ | ⟨_, e⟩
      · have := top1 x s x1 x2 x4; omega
      · exact e
    rcases h2 with ⟨x, s, _, _, x1, x2, _, x4, _⟩ | ⟨_, e⟩
    · have := top2 x s x1 x2 x4; omega
    · rw [e, e1]
  · right
    refine ⟨by omega, ?_⟩
    obtain ⟨hb, hr⟩ := h.own (by omega)
    by_cases hp : g % 2 = 1
    · rw [hodd g hp] at hb hr ⊢
      have e1 : o1 = ⟨g, bs, recs, at_ - base⟩ := by
        rcases h1 with ⟨x, s, r, nx, x1, x2, x3, x4, x5, e⟩ | ⟨hn, _⟩
        · obtain ⟨p, hp1, hp2, _⟩ := stands_first x4
          obtain ⟨q, hq1, hq2, _⟩ := stands_first hb
          have hxg : x = g := by rw [hp1] at hq1; obtain rfl := Option.some.inj hq1; omega
          subst hxg
          obtain rfl := stands_one x4 hb
          obtain ⟨rfl, rfl⟩ := recs_one x5 hr
          exact e
        · exact absurd hb (hn g bs (by omega) hp (by show (0 : Int) < g; omega))
      rcases h2 with ⟨x, s, _, _, x1, x2, x3, x4, _⟩ | ⟨_, e⟩
      · have := top2 x s x1 x2 x4
        rw [e1] at x3
        simp only at x3
        omega
      · rw [e, e1]
    · have hp0 : g % 2 = 0 := by omega
      rw [hev g hp0] at hb hr ⊢
      have e1 : o1.gen < g := by
        rcases h1 with ⟨x, s, r, nx, x1, x2, x3, x4, x5, e⟩ | ⟨_, e⟩
        · have := top1 x s x1 x2 x4
          rw [e]
          show x < g
          omega
        · rw [e]; show (0 : Int) < g; omega
      rcases h2 with ⟨x, s, r, nx, x1, x2, x3, x4, x5, e⟩ | ⟨hn, _⟩
      · obtain ⟨p, hp1, hp2, _⟩ := stands_first x4
        obtain ⟨q, hq1, hq2, _⟩ := stands_first hb
        have hxg : x = g := by rw [hp1] at hq1; obtain rfl := Option.some.inj hq1; omega
        subst hxg
        obtain rfl := stands_one x4 hb
        obtain ⟨rfl, rfl⟩ := recs_one x5 hr
        exact e
      · exact absurd hb (hn g bs (by omega) hp0 e1)

/-- Where no sector is a piece's the log is empty. -/
theorem log_new {rd : Int → ByteArray} {base half at_ : Int} (h : ∀ q, readP (rd q) = none) : LogOK rd base half 0 ⟨#[]⟩ [] at_ where
  g0 := Int.le_refl _
  own := fun h0 => absurd h0 (by omega)
  top := fun g' t _ ht => by
    obtain ⟨p, hp, _⟩ := stands_first ht
    rw [h] at hp
    cases hp
  pown := fun q p _ _ hp => by rw [h] at hp; cases hp
  poth := fun q p _ _ hp => by rw [h] at hp; cases hp
theorem ends_new (n : Nat) : EndsLow (newS n).kept 1 := fun s hs => by
  have := List.eq_of_mem_replicate hs
  subst this
  exact ⟨zeroB_size 64, by decide⟩
theorem read_zero64 : readP (zeroB 64) = none := by
  cases h : readP (zeroB 64) with
  | none => rfl
  | some p =>
    obtain ⟨_, he, hr, _⟩ := readP_some h
    have h1 := ((rightP_iff p).1 hr).t0
    have h2 : p.tot = 0 := by rw [he]; rfl
    omega
theorem rd_new (n : Nat) (q : Int) : readP (rdK (newS n).kept q) = none := by
  cases h : readP (rdK (newS n).kept q) with
  | none => rfl
  | some p =>
    have := List.eq_of_mem_replicate (rdK_mem h)
    change rdK (newS n).kept q = zeroB 64 at this
    rw [this, read_zero64] at h
    cases h
end Go.Proofs.Ytbdgmddlghhkjaa
