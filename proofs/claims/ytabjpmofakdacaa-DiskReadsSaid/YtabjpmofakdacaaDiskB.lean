/-
  The document's disk (package lockageref03) in memory, and what its Arm and Start do. No conditions but how it lies in memory.
-/
import Derived.Test.YtabjpmofakdacaaDiskA
import Derived.Laws.OwnMore
import Derived.Laws.Rows
namespace Go.Proofs.Ytabjpmofakdacaa
open Go.RowKit

/-- A disk's state: what is kept, the cache, is it off, armed, the bits, how many writes. -/
structure Dk where
  kept : List ByteArray
  cache : List (Int × ByteArray)
  off : Bool
  armed : Int
  bits : Int
  writes : Int

/-- What always holds of it. -/
structure Dk.Ok (d : Dk) : Prop where
  size : ∀ s ∈ d.kept, s.size = 64
  few : d.kept.length ≤ 4096
  at_ : ∀ x ∈ d.cache, 0 ≤ x.1 ∧ x.1 < d.kept.length ∧ x.2.size = 64
  armed0 : 0 ≤ d.armed
  armed1 : d.armed ≤ 9223372036854775807
  bits0 : 0 ≤ d.bits
  bits1 : d.bits < 18446744073709551616
  writes0 : 0 ≤ d.writes

/-- Only blocks from base on, of the types T, may have turned; new ones may be there. -/
structure OnlyT (base : Nat) (T : TypeId → Bool) (w w' : World) : Prop where
  os : w'.os = w.os
  tape : w'.tape = w.tape
  output : w'.output = w.output
  size : w.heap.size ≤ w'.heap.size
  block : ∀ i o, w.heap[i]? = some o → (i < base ∨ ∀ cs t m, o = .cells cs t m → T t = false) → w'.heap[i]? = some o

section
variable {base : Nat} {T : TypeId → Bool} {w a b : World}
theorem OnlyT.refl : OnlyT base T w w := ⟨rfl, rfl, rfl, Nat.le_refl _, fun _ _ h _ => h⟩
theorem OnlyT.trans (h : OnlyT base T w a) (k : OnlyT base T a b) : OnlyT base T w b :=
  ⟨k.os.trans h.os, k.tape.trans h.tape, k.output.trans h.output, Nat.le_trans h.size k.size, fun i o ho hc => k.block i o (h.block i o ho hc) hc⟩
theorem OnlyT.of_below (h : Below w.heap.size w a) : OnlyT base T w a :=
  ⟨h.os, h.tape, h.output, h.size, fun i o ho _ => by
    have hlt : i < w.heap.size := (Array.getElem?_eq_some_iff.1 ho).1
    rw [h.block i hlt]; exact ho⟩
theorem OnlyT.below (h : OnlyT base T w a) (hb : base ≤ w.heap.size) : Below base w a :=
  ⟨h.os, h.tape, h.output, h.size, fun i hi => by
    have hlt : i < w.heap.size := by omega
    rw [h.block i _ (Array.getElem?_eq_getElem hlt) (.inl hi), Array.getElem?_eq_getElem hlt]⟩
theorem OnlyT.alloc (h : OnlyT base T w a) (o : Obj) : OnlyT base T w (a.alloc o) := h.trans (OnlyT.of_below ((Below.refl _ _).alloc (Nat.le_refl _) o))
theorem OnlyT.setCell (h : OnlyT base T w a) {g i : Nat} {v : Value} {cs : Array Value} {t : TypeId} {m : Nat × Nat} (hg : a.heap[g]? = some (.cells cs t m)) (hT : T t = true) (hb : base ≤ g) : OnlyT base T w (a.setCell ⟨g, i, none⟩ v) :=
  h.trans ⟨rfl, rfl, rfl, by simp [World.setCell], fun j o ho hc => by
    by_cases e : j = g
    · subst e
      rw [hg] at ho
      injection ho with ho
      rcases hc with hc | hc
      · omega
      · rw [hc cs t m ho.symm] at hT; cases hT
    · exact (Below.heap_setCell a ⟨g, i, none⟩ v j e).trans ho⟩
end

def wrCells (c : List (Int × ByteArray)) : List Value := c.flatMap fun x => [.int .i64 x.1, .string x.2]

/-- The types of the document's disk. -/
def refT (t : TypeId) : Bool := t == 49 || t == 9 || t == 69

/-- The document's disk lies in block R. -/
def RefAt (w : World) (base R : Nat) (st : Dk) : Prop :=
  ∃ kv cv, w.heap[R]? = some (.cells #[kv, cv, .bool st.off, .int .i64 st.armed, .int .u64 st.bits, .int .i64 st.writes] 49 (0, 0)) ∧ base ≤ R ∧
    w.ownsRow base 9 1 kv st.kept.length (st.kept.map Value.string) ∧ w.ownsRow base 69 2 cv st.cache.length (wrCells st.cache) ∧ st.Ok

section
variable {base R : Nat} {st : Dk} {w : World}

theorem heap_set {w : World} {g i : Nat} {v : Value} {cs : Array Value} {t : TypeId} {m : Nat × Nat} (h : w.heap[g]? = some (.cells cs t m)) : (w.setCell ⟨g, i, none⟩ v).heap[g]? = some (.cells (cs.setIfInBounds i v) t m) := by
  simp [World.setCell, Array.getElem?_modify, h]
theorem own_set {w : World} {base : Nat} {e : TypeId} {size n : Nat} {v : Value} {xs : List Value} {g i : Nat} {u : Value} {cs : Array Value} {t : TypeId} (h : w.ownsRow base e size v n xs) (hg : w.heap[g]? = some (.cells cs t (0, 0))) (hne : e ≠ t) : (w.setCell ⟨g, i, none⟩ u).ownsRow base e size v n xs := by
  obtain ⟨hl, h⟩ := h
  refine ⟨hl, h.imp id ?_⟩
  rintro ⟨q, cap, cur, rfl, hb, hq, h1⟩
  refine ⟨q, cap, cur, rfl, hb, ?_, h1⟩
  have : q ≠ g := fun e' => by subst e'; rw [hg] at hq; injection hq with hq; injection hq with _ ht; exact hne ht.symm
  exact (Below.heap_setCell w ⟨g, i, none⟩ u q this).trans hq

/-- The disk's own block, and its two lists. -/
def RefB (w : World) (base R : Nat) (cs : Array Value) (kv cv : Value) (kept : List ByteArray) (cache : List (Int × ByteArray)) : Prop :=
  w.heap[R]? = some (.cells cs 49 (0, 0)) ∧ w.ownsRow base 9 1 kv kept.length (kept.map Value.string) ∧ w.ownsRow base 69 2 cv cache.length (wrCells cache)
section
variable {cs : Array Value} {kv cv : Value} {kept : List ByteArray} {cache : List (Int × ByteArray)}
theorem RefB.set (h : RefB w base R cs kv cv kept cache) (i : Nat) (v : Value) : RefB (w.setCell ⟨R, i, none⟩ v) base R (cs.setIfInBounds i v) kv cv kept cache :=
  ⟨heap_set h.1, own_set h.2.1 h.1 (by decide), own_set h.2.2 h.1 (by decide)⟩
theorem RefB.later {w' : World} (h : RefB w base R cs kv cv kept cache) (hb : Below w.heap.size w w') : RefB w' base R cs kv cv kept cache := by
  have hk : ∀ {e : TypeId} {size n : Nat} {v : Value} {xs : List Value}, w.ownsRow base e size v n xs → w'.ownsRow base e size v n xs := fun h =>
    h.kept (row := none) ⟨hb.os, hb.tape, hb.output, hb.size, fun i hi _ => hb.block i hi⟩ (by cases Value.ownBlock _ <;> simp)
  exact ⟨by rw [hb.block R (Array.getElem?_eq_some_iff.1 h.1).1]; exact h.1, hk h.2.1, hk h.2.2⟩
theorem RefB.cell (h : RefB w base R cs kv cv kept cache) (i : Nat) : w.cell? ⟨R, i, none⟩ = cs[i]? := by simp [World.cell?, h.1]
theorem RefB.free (h : RefB w base R cs kv cv kept cache) (i : Nat) : w.frozen? ⟨R, i, none⟩ = false := by simp [World.frozen?, h.1]
end

theorem refT_disk : refT 49 = true := by decide

set_option maxHeartbeats 400000 in
theorem refstart_is (h : RefAt w base R st) :
    Calls Try.prog 24 #[.pointer (some ⟨R, 0, none⟩)] w fun e w' => e = .returned (.tuple #[]) ∧ RefAt w' base R { st with off := false, armed := 0 } ∧ OnlyT base refT w w' := by
  obtain ⟨kv, cv, hR, hb, hk, hc, ok⟩ := h
  have HB := Lib.hid (show RefB w base R _ kv cv st.kept st.cache from ⟨hR, hk, hc⟩)
  have c2 := HB.out.cell 2
  have f2 := HB.out.free 2
  have c3 := HB.out.cell 3
  have f3 := HB.out.free 3
  clear hR hk hc
  simp at c2 c3
  go_enter Try.func24, Try.ntmps24
  go_wp2
  go_end0
  have h1 := (HB.out.set 2 (.bool false))
  have h2 := h1.set 3 (.int .i64 0)
  refine ⟨rfl, ⟨kv, cv, by simpa using h2.1, hb, h2.2.1, h2.2.2, { ok with armed0 := Int.le_refl _, armed1 := by simp }⟩, ?_⟩
  exact (OnlyT.refl.setCell HB.out.1 refT_disk hb).setCell h1.1 refT_disk hb

set_option maxHeartbeats 400000 in
theorem refarm_is (h : RefAt w base R st) (a b : Int) (ha : a ≤ 9223372036854775807) (hb0 : 0 ≤ b) (hb1 : b < 18446744073709551616) :
    Calls Try.prog 20 #[.pointer (some ⟨R, 0, none⟩), .agg #[.int .i64 a, .int .u64 b]] w fun e w' => e = .returned (.tuple #[]) ∧ RefAt w' base R { st with armed := max a 0, bits := b } ∧ OnlyT base refT w w' := by
  obtain ⟨kv, cv, hR, hb, hk, hc, ok⟩ := h
  have HB := Lib.hid ((show RefB w base R _ kv cv st.kept st.cache from ⟨hR, hk, hc⟩).later ((Below.refl _ _).alloc (Nat.le_refl _) (.cells #[.int .i64 a, .int .u64 b] 32)))
  have c3 := HB.out.cell 3
  have f3 := HB.out.free 3
  have c4 := HB.out.cell 4
  have f4 := HB.out.free 4
  clear hR hk hc
  simp at c3 c4
  by_cases hm : a < 0
  all_goals
    go_enter Try.func20, Try.ntmps20
    go_wp2
    go_end0
    have e0 : (w.alloc (.cells #[.int .i64 a, .int .u64 b] 32)).heap.size = w.heap.size + 1 := by simp
    have h1 := HB.out.set 3 (.int .i64 (max a 0))
    have h2 := h1.set 4 (.int .u64 b)
    have em : max a 0 = (if a < 0 then 0 else a) := by split <;> omega
    first
      | rw [if_pos (by omega)] at em
      | rw [if_neg (by omega)] at em
    rw [em] at h1 h2 ⊢
    refine ⟨rfl, ⟨kv, cv, by simpa using h2.1, hb, h2.2.1, h2.2.2, { ok with armed0 := by simp; try omega, armed1 := by simp; try omega, bits0 := hb0, bits1 := hb1 }⟩, ?_⟩
    exact ((OnlyT.refl.alloc _).setCell HB.out.1 refT_disk hb).setCell h1.1 refT_disk hb

/-- What is read at a place: the last write of it among these, or s. -/
def readL (at_ : Int) (s : ByteArray) (c : List (Int × ByteArray)) : ByteArray := c.foldl (fun s x => if x.1 = at_ then x.2 else s) s
theorem readL_snoc (at_ : Int) (s : ByteArray) (c : List (Int × ByteArray)) (x : Int × ByteArray) : readL at_ s (c ++ [x]) = if x.1 = at_ then x.2 else readL at_ s c := by simp [readL, List.foldl_append]

theorem wrCells_len (c : List (Int × ByteArray)) : (wrCells c).length = c.length * 2 := by
  induction c with
  | nil => rfl
  | cons x c ih =>
    simp only [wrCells, List.flatMap_cons, List.length_append, List.length_cons, List.length_nil] at *
    omega
theorem wrCells_at : ∀ (c : List (Int × ByteArray)) (i : Nat) (x : Int × ByteArray), c[i]? = some x → (wrCells c)[i * 2]? = some (.int .i64 x.1) ∧ (wrCells c)[i * 2 + 1]? = some (.string x.2)
  | [], i, x, h => by simp at h
  | y :: c, 0, x, h => by
    obtain rfl : y = x := by simpa using h
    exact ⟨rfl, rfl⟩
  | y :: c, i + 1, x, h => by
    have ih := wrCells_at c i x (by simpa using h)
    have e : wrCells (y :: c) = .int .i64 y.1 :: .string y.2 :: wrCells c := rfl
    rw [e, show (i + 1) * 2 = i * 2 + 1 + 1 by omega, show i * 2 + 1 + 1 + 1 = (i * 2 + 1) + 1 + 1 by omega]
    exact ⟨by simpa using ih.1, by simpa using ih.2⟩

/-- The cells of the i-th write of the cache, at the walk's spelling. -/
theorem RefB.write_at {cs : Array Value} {kv cv : Value} {kept : List ByteArray} {cache : List (Int × ByteArray)} (h : RefB w base R cs kv cv kept cache) {i : Nat} {x : Int × ByteArray} (hx : cache[i]? = some x) :
    ∃ g cap, cv = .slice (some ⟨g, 0, none⟩) cache.length cap ∧ w.cell? ⟨g, i * 2, none⟩ = some (.int .i64 x.1) ∧ w.cell? ⟨g, i * 2 + 1, none⟩ = some (.string x.2) := by
  have hi : i < cache.length := (List.getElem?_eq_some_iff.1 hx).1
  obtain ⟨h0, h1⟩ := wrCells_at cache i x hx
  have ho := h.2.2
  rcases ho.2 with ⟨_, e⟩ | ⟨g, cap, cur, rfl, _, _, _⟩
  · omega
  · exact ⟨g, cap, rfl, by rw [ho.cellAt _ (by omega), h0], by rw [ho.cellAt _ (by omega), h1]⟩
theorem RefB.kept_at {cs : Array Value} {kv cv : Value} {kept : List ByteArray} {cache : List (Int × ByteArray)} (h : RefB w base R cs kv cv kept cache) {i : Nat} {s : ByteArray} (hx : kept[i]? = some s) :
    ∃ g cap, kv = .slice (some ⟨g, 0, none⟩) kept.length cap ∧ w.cell? ⟨g, i, none⟩ = some (.string s) := by
  have hi : i < kept.length := (List.getElem?_eq_some_iff.1 hx).1
  have ho := h.2.1
  rcases ho.2 with ⟨_, e⟩ | ⟨g, cap, cur, rfl, _, _, _⟩
  · omega
  · exact ⟨g, cap, rfl, by rw [ho.cellAt _ (by omega)]; simp [hx]⟩
theorem RefB.lens {cs : Array Value} {kv cv : Value} {kept : List ByteArray} {cache : List (Int × ByteArray)} (h : RefB w base R cs kv cv kept cache) :
    ∃ A c B d, kv = .slice A kept.length c ∧ cv = .slice B cache.length d := by
  have h1 : ∃ A c, kv = .slice A kept.length c := by
    rcases h.2.1.2 with ⟨rfl, e⟩ | ⟨g, cap, cur, rfl, _⟩
    · exact ⟨_, _, by rw [e]⟩
    · exact ⟨_, _, rfl⟩
  have h2 : ∃ A c, cv = .slice A cache.length c := by
    rcases h.2.2.2 with ⟨rfl, e⟩ | ⟨g, cap, cur, rfl, _⟩
    · exact ⟨_, _, by rw [e]⟩
    · exact ⟨_, _, rfl⟩
  obtain ⟨A, c, e1⟩ := h1
  obtain ⟨B, d, e2⟩ := h2
  exact ⟨A, c, B, d, e1, e2⟩

/-- What Read answers. -/
def readE (st : Dk) (at_ : Int) : Int := if st.off then 5 else if at_ < 0 ∨ (st.kept.length : Int) ≤ at_ then 2 else 0
def readS (st : Dk) (at_ : Int) : ByteArray := if st.off then ⟨#[]⟩ else if at_ < 0 ∨ (st.kept.length : Int) ≤ at_ then ⟨#[]⟩ else readL at_ (st.kept.getD at_.toNat ⟨#[]⟩) st.cache

set_option maxHeartbeats 1000000 in
theorem refread_is (h : RefAt w base R st) (at_ : Int) (hn : st.cache.length ≤ 1000000) :
    Calls Try.prog 18 #[.pointer (some ⟨R, 0, none⟩), .int .i64 at_] w fun e w' => e = .returned (.tuple #[.string (readS st at_), .int .i64 (readE st at_)]) ∧ w = w' := by
  obtain ⟨kv, cv, hR, hb, hk, hc, ok⟩ := h
  have hB : RefB w base R _ kv cv st.kept st.cache := ⟨hR, hk, hc⟩
  have HB := Lib.hid hB
  obtain ⟨A, c, B, d, ek, ec⟩ := hB.lens
  have c0 := hB.cell 0
  have c1 := hB.cell 1
  have c2 := hB.cell 2
  simp at c0 c1 c2
  clear hR hk hc hB
  cases ho : st.off
  · rw [ho] at c2
    by_cases h0 : at_ < 0
    · have e1 := Lib.hid (show readE st at_ = 2 by simp [readE, ho, h0])
      have e2 := Lib.hid (show readS st at_ = ⟨#[]⟩ by simp [readS, ho, h0])
      go_enter Try.func18, Try.ntmps18
      go_wp2
      go_ret2
      exact ⟨by rw [e1.out, e2.out]; rfl, rfl⟩
    · by_cases h1 : (st.kept.length : Int) ≤ at_
      · have e1 := Lib.hid (show readE st at_ = 2 by simp [readE, ho, h1])
        have e2 := Lib.hid (show readS st at_ = ⟨#[]⟩ by simp [readS, ho, h1])
        subst ek
        go_enter Try.func18, Try.ntmps18
        go_wp2
        go_ret2
        exact ⟨by rw [e1.out, e2.out]; rfl, rfl⟩
      · obtain ⟨i, rfl⟩ : ∃ i : Nat, at_ = i := ⟨at_.toNat, by omega⟩
        have hi : i < st.kept.length := by omega
        have e1 := Lib.hid (show readE st i = 0 by simp [readE, ho]; omega)
        have e2 := Lib.hid (show readS st i = readL i (st.kept.getD i ⟨#[]⟩) st.cache by simp [readS, ho]; omega)
        obtain ⟨g, cap, rfl, k0⟩ := HB.out.kept_at (List.getElem?_eq_getElem hi)
        generalize hs : st.kept[i] = s at k0
        have HS := Lib.hid (show st.kept.getD i ⟨#[]⟩ = s by simp [hi, hs])
        clear hs ek h0 h1
        have hd1 : decide ((i : Int) < 0) = false := by simp
        have hd2 : decide (st.kept.length ≤ i) = false := by simpa using hi
        subst ec
        go_enter Try.func18, Try.ntmps18
        go_wp2
        go_loop [6, 7] (fun t j => ∃ k : Nat, k ≤ st.cache.length ∧ j = .int .i64 k ∧ t = .string (readL i s (st.cache.take k))) (fun _ j => st.cache.length - (intOf j).toNat)
        case atStart => exact ⟨0, Nat.zero_le _, rfl, rfl⟩
        case round =>
          obtain ⟨k, hk, rfl, rfl⟩ := hrel
          by_cases hlt : k < st.cache.length
          · obtain ⟨q, cap2, e3, x0, x1⟩ := HB.out.write_at (List.getElem?_eq_getElem hlt)
            have HX := Lib.hid (show readL i s (st.cache.take (k + 1)) = if (st.cache[k]).1 = i then (st.cache[k]).2 else readL i s (st.cache.take k) by rw [List.take_succ_eq_append_getElem hlt, readL_snoc])
            injection e3 with e3 _ e4
            subst e3 e4
            generalize st.cache[k] = x at x0 x1 HX
            obtain ⟨xa, xs⟩ := x
            simp only at x0 x1 HX
            by_cases hx : xa = (i : Int)
            · have hxb : (xa == (i : Int)) = true := by simpa using hx
              have HX2 := Lib.hid (show readL i s (st.cache.take (k + 1)) = xs by rw [HX.out, if_pos hx])
              clear HX hx
              go_wp2
              go_round
              case rel => exact ⟨k + 1, by omega, by go_num, by rw [HX2.out]⟩
              case measure => simp [intOf]; omega
            · have hxb : (xa == (i : Int)) = false := by simpa using hx
              have HX2 := Lib.hid (show readL i s (st.cache.take (k + 1)) = readL i s (st.cache.take k) by rw [HX.out, if_neg hx])
              clear HX hx
              go_wp2
              go_round
              case rel => exact ⟨k + 1, by omega, by go_num, by rw [HX2.out]⟩
              case measure => simp [intOf]; omega
          · obtain rfl : k = st.cache.length := by omega
            go_wp2
            go_ret2
            exact ⟨by rw [e1.out, e2.out, HS.out]; rfl, rfl⟩
  · rw [ho] at c2
    have e1 := Lib.hid (show readE st at_ = 5 by simp [readE, ho])
    have e2 := Lib.hid (show readS st at_ = ⟨#[]⟩ by simp [readS, ho])
    go_enter Try.func18, Try.ntmps18
    go_wp2
    go_ret2
    exact ⟨by rw [e1.out, e2.out]; rfl, rfl⟩

end
end Go.Proofs.Ytabjpmofakdacaa
