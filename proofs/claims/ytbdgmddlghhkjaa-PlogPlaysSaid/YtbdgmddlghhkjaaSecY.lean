/-
  What the program's Next (package sector) answers: the text that stands at a place. No conditions but what read answers at the places from at up to end.
-/
import Derived.Test.YtbdgmddlghhkjaaSecX
import Derived.Defers
import Derived.Recover
import Derived.Lib.AppendStr
namespace Go.Proofs.Ytbdgmddlghhkjaa
open Go.RowKit

theorem catch_idle (a b c d : Value) (w : World) :
    CallsD Try.prog 53 #[a, b, c, d] .returning w fun e u' w' => e = .returned (.tuple #[]) ∧ u' = .returning ∧ w' = w := by
  refine callsD_of_wpS Try.func53 rfl fun c₀ cs hu => ?_
  apply wpS_seq
  apply wpS_region
  simp [wpOpsS, go_sem, recoverD, hu, Try.ntmps53, Exit.thenS]
  refine wpS_cond (t := false) (by simp [Act.eval, Array.replicate]) ?_
  simp only [Bool.false_eq_true, if_false]
  refine wpS_of_wp (wp_skip ?_)
  cases c₀
  simp_all [bodyPostS, results, Try.results53]

/-- What a Next answers. -/
def nextV (at_ : Int) : Option (ByteArray × Int) → Value
  | none => .tuple #[.string ⟨#[]⟩, .int .i64 at_, .bool false]
  | some (s, n) => .tuple #[.string s, .int .i64 n, .bool true]

theorem own_agree {base : Nat} {e : TypeId} {size n : Nat} {v : Value} {xs : List Value} {W W' : World} (h : W.ownsRow base e size v n xs) (ha : ∀ q, base ≤ q → q < W.heap.size → W'.heap[q]? = W.heap[q]?) : W'.ownsRow base e size v n xs := by
  obtain ⟨hl, h⟩ := h
  refine ⟨hl, h.imp id ?_⟩
  rintro ⟨q, cap, cur, rfl, hb, hq, h1⟩
  exact ⟨q, cap, cur, rfl, hb, (ha q hb (Array.getElem?_eq_some_iff.1 hq).1).trans hq, h1⟩

/-- What lies in memory while a text is looked for: the place, the results, the first piece, the text so far. -/
structure NxW (w : World) (at_ : Int) (c1 c2 c3 : Value) (fc : Array Value) (tv : Value) (acc : ByteArray) (W : World) : Prop where
  b0 : W.heap[w.heap.size]? = some (.cells #[.int .i64 at_] 3 (0, 0))
  b1 : W.heap[w.heap.size + 1]? = some (.cells #[c1] 9 (0, 0))
  b2 : W.heap[w.heap.size + 1 + 1]? = some (.cells #[c2] 3 (0, 0))
  b3 : W.heap[w.heap.size + 1 + 1 + 1]? = some (.cells #[c3] 4 (0, 0))
  b4 : W.heap[w.heap.size + 1 + 1 + 1 + 1]? = some (.cells fc 85 (0, 0))
  own : W.ownsRow (w.heap.size + 5) 5 1 tv acc.size (bytesV acc)
  low : Below w.heap.size w W
section
variable {w W W' : World} {at_ : Int} {c1 c2 c3 tv : Value} {fc : Array Value} {acc : ByteArray}
theorem NxW.later (h : NxW w at_ c1 c2 c3 fc tv acc W) (hb : Below W.heap.size W W') : NxW w at_ c1 c2 c3 fc tv acc W' :=
  ⟨later_at hb h.b0, later_at hb h.b1, later_at hb h.b2, later_at hb h.b3, later_at hb h.b4, own_agree h.own (fun q _ hq => hb.block q hq), below_step h.low hb⟩
theorem NxW.drew (h : NxW w at_ c1 c2 c3 fc tv acc W) : NxW w at_ c1 c2 c3 fc tv acc W.drew := h.later (Below.refl _ _).drew
theorem NxW.set1 (h : NxW w at_ c1 c2 c3 fc tv acc W) (v : Value) : NxW w at_ v c2 c3 fc tv acc (W.setCell ⟨w.heap.size + 1, 0, none⟩ v) := by
  have o : ∀ g, g ≠ w.heap.size + 1 → (W.setCell ⟨w.heap.size + 1, 0, none⟩ v).heap[g]? = W.heap[g]? := fun g hg => Below.heap_setCell W ⟨w.heap.size + 1, 0, none⟩ v g (by simpa using hg)
  exact ⟨(o _ (by omega)).trans h.b0, by rw [row_set h.b1]; rfl, (o _ (by omega)).trans h.b2, (o _ (by omega)).trans h.b3, (o _ (by omega)).trans h.b4, own_agree h.own (fun q hq _ => o q (by omega)), h.low.setCell (by simp) _⟩
theorem NxW.set2 (h : NxW w at_ c1 c2 c3 fc tv acc W) (v : Value) : NxW w at_ c1 v c3 fc tv acc (W.setCell ⟨w.heap.size + 1 + 1, 0, none⟩ v) := by
  have o : ∀ g, g ≠ w.heap.size + 1 + 1 → (W.setCell ⟨w.heap.size + 1 + 1, 0, none⟩ v).heap[g]? = W.heap[g]? := fun g hg => Below.heap_setCell W ⟨w.heap.size + 1 + 1, 0, none⟩ v g (by simpa using hg)
  exact ⟨(o _ (by omega)).trans h.b0, (o _ (by omega)).trans h.b1, by rw [row_set h.b2]; rfl, (o _ (by omega)).trans h.b3, (o _ (by omega)).trans h.b4, own_agree h.own (fun q hq _ => o q (by omega)), h.low.setCell (by simp; omega) _⟩
theorem NxW.set3 (h : NxW w at_ c1 c2 c3 fc tv acc W) (v : Value) : NxW w at_ c1 c2 v fc tv acc (W.setCell ⟨w.heap.size + 1 + 1 + 1, 0, none⟩ v) := by
  have o : ∀ g, g ≠ w.heap.size + 1 + 1 + 1 → (W.setCell ⟨w.heap.size + 1 + 1 + 1, 0, none⟩ v).heap[g]? = W.heap[g]? := fun g hg => Below.heap_setCell W ⟨w.heap.size + 1 + 1 + 1, 0, none⟩ v g (by simpa using hg)
  exact ⟨(o _ (by omega)).trans h.b0, (o _ (by omega)).trans h.b1, (o _ (by omega)).trans h.b2, by rw [row_set h.b3]; rfl, (o _ (by omega)).trans h.b4, own_agree h.own (fun q hq _ => o q (by omega)), h.low.setCell (by simp; omega) _⟩
theorem NxW.set4 (h : NxW w at_ c1 c2 c3 fc tv acc W) (i : Nat) (v : Value) : NxW w at_ c1 c2 c3 (fc.setIfInBounds i v) tv acc (W.setCell ⟨w.heap.size + 1 + 1 + 1 + 1, i, none⟩ v) := by
  have o : ∀ g, g ≠ w.heap.size + 1 + 1 + 1 + 1 → (W.setCell ⟨w.heap.size + 1 + 1 + 1 + 1, i, none⟩ v).heap[g]? = W.heap[g]? := fun g hg => Below.heap_setCell W ⟨w.heap.size + 1 + 1 + 1 + 1, i, none⟩ v g (by simpa using hg)
  exact ⟨(o _ (by omega)).trans h.b0, (o _ (by omega)).trans h.b1, (o _ (by omega)).trans h.b2, (o _ (by omega)).trans h.b3, by rw [row_set h.b4], own_agree h.own (fun q hq _ => o q (by omega)), h.low.setCell (by simp; omega) _⟩
theorem NxW.grow (h : NxW w at_ c1 c2 c3 fc tv acc W) {tv2 : Value} {d : ByteArray} (hg : W.grownBy W' tv.ownBlock) (ho : W'.ownsRow (w.heap.size + 5) 5 1 tv2 (acc.size + d.size) (bytesV acc ++ Lib.strCells d)) : NxW w at_ c1 c2 c3 fc tv2 (acc ++ d) W' := by
  have o : ∀ g o, g < w.heap.size + 5 → W.heap[g]? = some o → W'.heap[g]? = some o := fun g o hlt hgo => by
    rw [hg.block g (Array.getElem?_eq_some_iff.1 hgo).1 (fun e => by
      rcases h.own.2 with ⟨rfl, _⟩ | ⟨q, cap, cur, rfl, hq, _⟩
      · simp [Value.ownBlock] at e
      · simp [Value.ownBlock] at e
        omega)]
    exact hgo
  refine ⟨o _ _ (by omega) h.b0, o _ _ (by omega) h.b1, o _ _ (by omega) h.b2, o _ _ (by omega) h.b3, o _ _ (by omega) h.b4, ?_, h.low.grown hg (by have := h.low.size; omega) (fun b e => by
      rcases h.own.2 with ⟨rfl, _⟩ | ⟨q, cap, cur, rfl, hq, _⟩
      · simp [Value.ownBlock] at e
      · simp [Value.ownBlock] at e
        omega)⟩
  have e1 : (acc ++ d).size = acc.size + d.size := ByteArray.size_append
  have e2 : bytesV (acc ++ d) = bytesV acc ++ Lib.strCells d := by
    rw [bytesV_bl, bl_append, cellsB, List.map_append]
    rfl
  rw [e1, e2]
  exact ho
end
theorem NxW.start (w : World) (at_ : Int) : NxW w at_ (.string ⟨#[]⟩) (.int .i64 0) (.bool false) #[.int .u64 0, .int .i64 0, .int .i64 0, .int .i64 0, .int .i64 0, .string ⟨#[]⟩] (.slice none 0 0) ⟨#[]⟩
    (((((w.alloc (.cells #[.int .i64 at_] 3)).alloc (.cells #[.string ⟨#[]⟩] 9)).alloc (.cells #[.int .i64 0] 3)).alloc (.cells #[.bool false] 4)).alloc (.cells #[.int .u64 0, .int .i64 0, .int .i64 0, .int .i64 0, .int .i64 0, .string ⟨#[]⟩] 85)) := by
  have k : ∀ (W : World) (o o' : Obj) (g : Nat), W.heap[g]? = some o' → (W.alloc o).heap[g]? = some o' := fun W o o' g h => later_at ((Below.refl _ _).alloc (Nat.le_refl _) _) h
  have m : ∀ (W : World) (o : Obj) (g : Nat), g = W.heap.size → (W.alloc o).heap[g]? = some o := fun W o g h => by rw [h]; exact made_at _ _
  exact ⟨k _ _ _ _ (k _ _ _ _ (k _ _ _ _ (k _ _ _ _ (m _ _ _ rfl)))), k _ _ _ _ (k _ _ _ _ (k _ _ _ _ (m _ _ _ (by simp)))), k _ _ _ _ (k _ _ _ _ (m _ _ _ (by simp))), k _ _ _ _ (m _ _ _ (by simp)), m _ _ _ (by simp), World.ownsRow_nil _ _ _ _,
    (((((Below.refl w.heap.size w).alloc (Nat.le_refl _) _).alloc (by simp) _).alloc (by simp; omega) _).alloc (by simp; omega) _).alloc (by simp; omega) _⟩

/-- Two pieces held against each other. -/
def samePc (p q : Pc) : Bool := decide (p.stamp = q.stamp) && decide (p.gen = q.gen) && decide (p.no = q.no) && decide (p.idx = q.idx) && decide (p.tot = q.tot) && decide (p.data = q.data)
@[go_sem ↓] theorem eqPc (a b c d e : Int) (s : ByteArray) (a' b' c' d' e' : Int) (s' : ByteArray) (w : World) : (Op.equalIn 10000 85 (.agg #[.int .u64 a, .int .i64 b, .int .i64 c, .int .i64 d, .int .i64 e, .string s]) (.agg #[.int .u64 a', .int .i64 b', .int .i64 c', .int .i64 d', .int .i64 e', .string s'])).run Try.prog w = .ok (samePc ⟨a, b, c, d, e, s⟩ ⟨a', b', c', d', e', s'⟩) w := by
  have hS : Try.prog.underlying 85 = some (.struct (Try.prog.fieldsOf 85)) := by kernel_rfl
  rw [show (10000 : Nat) = 9999 + 1 from rfl, run_equalIn_agg w 9999 85 _ _ hS (by kernel_rfl)]
  simp only [Program.fieldsOf, Try.underlying85]
  go_simp
  unfold samePc
  have hl : (s.toList = s'.toList) = (s = s') := by
    have := ba_beq s s'
    rw [Bool.eq_iff_iff] at this
    simpa using this
  by_cases h1 : a = a' <;> by_cases h2 : b = b' <;> by_cases h3 : c = c' <;> by_cases h4 : d = d' <;> by_cases h5 : e = e' <;> by_cases h6 : s = s' <;> simp [h1, h2, h3, h4, h5, h6, hl]

/-- Has it as many bytes as a text leaves to it? -/
def filledB (p : Pc) : Bool := if p.idx = p.tot - 1 then (if 0 < p.idx then decide (p.data.size ≠ 0) else true) else decide (p.data.size = 37)

set_option maxHeartbeats 400000 in
set_option maxRecDepth 100000 in
theorem filled_is (s g o i t : Int) (d : ByteArray) (h0 : -9223372036854775808 < t) (h1 : t ≤ 9223372036854775807) (w : World) :
    Calls Try.prog 54 #[.agg #[.int .u64 s, .int .i64 g, .int .i64 o, .int .i64 i, .int .i64 t, .string d]] w fun e w' => e = .returned (.bool (filledB ⟨s, g, o, i, t, d⟩)) ∧ Below w.heap.size w w' := by
  have LA := Lib.hid (fun w : World => last_is s g o i t d h0 h1 w)
  go_enter Try.func54, Try.ntmps54
  go_wp2_with fail
  refine (LA.out _).mono ?_
  rintro e w1 ⟨rfl, hb1⟩
  have HB1 := Lib.hid (below_step ((Below.refl w.heap.size w).alloc (Nat.le_refl _) (.cells #[.int .u64 s, .int .i64 g, .int .i64 o, .int .i64 i, .int .i64 t, .string d] 85)) hb1)
  have hz := later_at hb1 (made_at w (.cells #[.int .u64 s, .int .i64 g, .int .i64 o, .int .i64 i, .int .i64 t, .string d] 85))
  have z3 := cellH hz 3
  have z5 := cellH hz 5
  simp at z3 z5
  clear hz hb1
  by_cases hl : i = t - 1
  · have HL := Lib.hid hl
    rw [decide_eq_true hl]
    clear hl
    by_cases h0 : 0 < i
    · have HF := Lib.hid (show filledB ⟨s, g, o, i, t, d⟩ = decide (d.size ≠ 0) by unfold filledB; rw [if_pos HL.out, if_pos h0])
      by_cases hd : d.size = 0
      · have hdd : d = ⟨#[]⟩ := ByteArray.ext (Array.eq_empty_of_size_eq_zero hd)
        have HD := Lib.hid hd
        subst hdd
        clear hd
        go_wp2_with fail
        go_ret
        exact ⟨ret_bool (by rw [HF.out]; rfl), HB1.out⟩
      · have hdb : (d.toList == (⟨#[]⟩ : ByteArray).toList) = false := by rw [ba_beq]; exact decide_eq_false (fun e => hd (by rw [e]; rfl))
        have HD := Lib.hid hd
        have HDT := Lib.hid (show ¬ d.toList = [] by
          intro e
          apply hd
          rw [Go.ByteArray.toList_eq] at e
          have := congrArg List.length e
          simpa using this)
        clear hd
        go_wp2_with fail
        go_ret
        exact ⟨ret_bool (by rw [HF.out]; simp [HD.out, HDT.out]), HB1.out⟩
    · have HF := Lib.hid (show filledB ⟨s, g, o, i, t, d⟩ = true by unfold filledB; rw [if_pos HL.out, if_neg h0])
      go_wp2_with fail
      go_ret
      exact ⟨ret_bool (by rw [HF.out]), HB1.out⟩
  · have HF := Lib.hid (show filledB ⟨s, g, o, i, t, d⟩ = decide (d.size = 37) by unfold filledB; rw [if_neg hl])
    rw [decide_eq_false hl]
    clear hl
    go_wp2_with fail
    go_ret
    exact ⟨ret_bool (by rw [HF.out, Bool.eq_iff_iff]; simp; omega), HB1.out⟩

/-- The round's question, as the program asks it. -/
theorem next_asks {p q : Pc} {gen no : Int} {i : Nat} (h : p.Ok) : (p.gen = gen ∧ p.no = no ∧ p.idx = i ∧ p.stamp = q.stamp ∧ p.tot = q.tot ∧ ((i : Int) < p.tot - 1 → p.data.size = 37) ∧ (0 < i → p.data.size ≠ 0)) ↔ samePc p ⟨q.stamp, gen, no, i, q.tot, p.data⟩ = true ∧ filledB p = true := by
  have h1 := h.i1
  simp only [samePc, Bool.and_eq_true, decide_eq_true_eq, and_true]
  constructor
  · rintro ⟨a, b, c, d, e, f, g⟩
    refine ⟨⟨⟨⟨⟨d, a⟩, b⟩, c⟩, e⟩, ?_⟩
    unfold filledB
    split
    · split
      · exact decide_eq_true (g (by omega))
      · rfl
    · exact decide_eq_true (f (by omega))
  · rintro ⟨⟨⟨⟨⟨d, a⟩, b⟩, c⟩, e⟩, f⟩
    refine ⟨a, b, c, d, e, fun hlt => ?_, fun hlt => ?_⟩
    · unfold filledB at f
      rw [if_neg (by omega)] at f
      simpa using f
    · unfold filledB at f
      split at f
      · rw [if_pos (by omega)] at f
        simpa using f
      · have : p.data.size = 37 := by simpa using f
        omega
section
variable {rd : Int → ByteArray} {at_ end_ gen no : Int} {f i : Nat} {first : Option Pc} {acc : ByteArray} {p : Pc}
theorem nextF_end (h : end_ ≤ at_ + i) : nextF rd at_ end_ gen no f i first acc = none := by
  cases f with
  | zero => rfl
  | succ f => unfold nextF; rw [if_pos h]
theorem nextF_none (h : ¬ end_ ≤ at_ + i) (hr : readP (rd (at_ + i)) = none) : nextF rd at_ end_ gen no (f + 1) i first acc = none := by
  unfold nextF; rw [if_neg h, hr]
theorem nextF_bad (h : ¬ end_ ≤ at_ + i) (hr : readP (rd (at_ + i)) = some p) (hc : ¬ (samePc p ⟨(first.getD p).stamp, gen, no, i, (first.getD p).tot, p.data⟩ = true ∧ filledB p = true)) : nextF rd at_ end_ gen no (f + 1) i first acc = none := by
  have hok := (rightP_iff p).1 (readP_some hr).2.2.1
  unfold nextF
  rw [if_neg h, hr]
  simp only
  rw [if_neg (fun k => hc ((next_asks hok).1 k))]
theorem nextF_last (h : ¬ end_ ≤ at_ + i) (hr : readP (rd (at_ + i)) = some p) (hc : samePc p ⟨(first.getD p).stamp, gen, no, i, (first.getD p).tot, p.data⟩ = true ∧ filledB p = true) (hl : (i : Int) = p.tot - 1) : nextF rd at_ end_ gen no (f + 1) i first acc = some (acc ++ p.data, at_ + i + 1) := by
  have hok := (rightP_iff p).1 (readP_some hr).2.2.1
  unfold nextF
  rw [if_neg h, hr]
  simp only
  rw [if_pos ((next_asks hok).2 hc), if_pos hl]
theorem nextF_more (h : ¬ end_ ≤ at_ + i) (hr : readP (rd (at_ + i)) = some p) (hc : samePc p ⟨(first.getD p).stamp, gen, no, i, (first.getD p).tot, p.data⟩ = true ∧ filledB p = true) (hl : ¬ (i : Int) = p.tot - 1) : nextF rd at_ end_ gen no (f + 1) i first acc = nextF rd at_ end_ gen no f (i + 1) (some (first.getD p)) (acc ++ p.data) := by
  have hok := (rightP_iff p).1 (readP_some hr).2.2.1
  conv => lhs; unfold nextF
  rw [if_neg h, hr]
  simp only
  rw [if_pos ((next_asks hok).2 hc), if_neg hl]
end
theorem samePc_idx {p q : Pc} (h : samePc p q = true) : p.idx = q.idx := by
  simp only [samePc, Bool.and_eq_true, decide_eq_true_eq] at h
  exact h.1.1.2
theorem grown_at {W W' : World} {row : Option Nat} {b : Nat} {o : Obj} (hg : W.grownBy W' row) (h : W.heap[b]? = some o) (hne : row ≠ some b) : W'.heap[b]? = some o := (hg.block b (Array.getElem?_eq_some_iff.1 h).1 (Ne.symm hne)).trans h
theorem own_old {W : World} {base n : Nat} {e : TypeId} {v : Value} {xs : List Value} (h : W.ownsRow base e 1 v n xs) : ∀ b, W.heap.size ≤ b → v.ownBlock ≠ some b := by
  intro b hb e
  rcases h.2 with ⟨rfl, _⟩ | ⟨q, cap, cur, rfl, _, hq, _⟩
  · simp [Value.ownBlock] at e
  · have := (Array.getElem?_eq_some_iff.1 hq).1
    simp [Value.ownBlock] at e
    omega
theorem own_text {W : World} {base n : Nat} {v : Value} {s : ByteArray} (h : W.ownsRow base 5 1 v n (bytesV s)) : (convert 61 9 v).run Try.prog W = .ok (.string s) W := by
  have hl := h.1
  rw [bytesV_len, Nat.mul_one] at hl
  rcases h.2 with ⟨rfl, hn⟩ | ⟨q, cap, cur, rfl, hq⟩
  · have he : s = ⟨#[]⟩ := ByteArray.ext (Array.eq_empty_of_size_eq_zero (by show s.size = 0; omega))
    subst he
    rw [run_convert_bytes_string W 61 9 5 none 0 0 Try.underlying61 Try.underlying5 Try.underlying9]
    rfl
  · have := own_conv (l := bl s) (n := n) h (by rw [bl_len]; exact hl)
    rw [ofL_bl] at this
    exact this
end Go.Proofs.Ytbdgmddlghhkjaa
