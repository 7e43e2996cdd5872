/-
  The program's Writer: how it lies in memory, and what put does. Conditions: how the Writer lies, texts' lengths.
-/
import Derived.Test.YtfjaibaidpbppaaGreatDoorCodX
import Derived.Test.YtfjaibaidpbppaaGreatDoorLexP
namespace Go.Proofs.YtfjaibaidpbppaaGreatDoor
open Go.RowKit

theorem one_readyH {P : Program} {md : Region.Mode} {ops : Array Oper} {Q : Exit → Act → World → Prop} {S : World → Prop} {fuel i : Nat} {listed : Array Bool} {a : Act} {w : World} (hr : Region.ready md ops listed = [i])
    (h : wpOp P ops Q i (fun a' w' => S w' ∧ wpAnyH P md ops Q S fuel (listed.setIfInBounds i true) a' w') a w) : wpAnyH P md ops Q S (fuel + 1) listed a w :=
  wpAnyH_ready hr (by simp) (fun j hj => by
    obtain rfl : j = i := by simpa using hj
    exact h)
/-- append of a text onto a row of bytes, as one step of a region that draws. -/
theorem step_append_row {P : Program} {ops : Array Oper} {o : Oper} {a : Act} {w : World} {K : Act → World → Prop} {Q : Exit → Act → World → Prop} {E : Prop} (hgd : o.guard = none) (sl x : Operand) (t u : TypeId)
    (ho : o.op = .call { callee := .builtin .append, args := #[sl, x], argTypes := #[t, u] })
    (e : TypeId) (i : TypeInfo) (ht : P.underlying t = some (.slice e)) (hu : P.underlying u = some .string) (hi : P.info? e = some i) (hz : i.zero = some (.int .u8 0)) (hsize : i.size = 1) (hby : i.bytes = 1)
    (g cap : Nat) (l : List UInt8) (h : Row e w g cap l) (s : ByteArray) (hs : a.eval sl = .slice (some ⟨g, 0, none⟩) l.length cap) (hx : a.eval x = .string s) (hb : l.length + s.size ≤ 140737488355328)
    (hK : ∀ g' cap' w', Row e w' g' cap' (l ++ bl s) → (g' = g ∨ g' = w.heap.size) → w.grownBy w' (some g) → K (a.put o.dst (.slice (some ⟨g', 0, none⟩) (l.length + s.size : Nat) cap')) w') :
    if Region.wanted o (yielded ops a.tmps) = true then Oper.wp P o a w K Q else E := by
  have hw : Region.wanted o (yielded ops a.tmps) = true := by simp [Region.wanted, hgd]
  rw [if_pos hw]
  obtain ⟨g', cap', w', hr, h2, h3, h4⟩ := run_append_row (P := P) t u o.type i ht hu hi hz hsize hby h s hb
  unfold Oper.wp
  simp only [execOp, ho, resolve, invoke, builtin, Sem.run_bind, Sem.run_pure, Result.andThen_ok, List.map_toArray, List.map_cons, List.map_nil, hs, hx, hr]
  exact hK _ _ _ h2 h3 h4

/-- Only the blocks O may have turned; new ones may be there. -/
structure OnlyO (O : List Nat) (w w' : World) : Prop where
  os : w'.os = w.os
  tape : w'.tape = w.tape
  output : w'.output = w.output
  size : w.heap.size ≤ w'.heap.size
  block : ∀ i, i < w.heap.size → i ∉ O → w'.heap[i]? = w.heap[i]?
section
variable {O O' : List Nat} {a b c : World}
theorem OnlyO.of_below (h : Below a.heap.size a b) : OnlyO O a b := ⟨h.os, h.tape, h.output, h.size, fun i hi _ => h.block i hi⟩
/-- O' holds only of O, and what is new. -/
def New (O O' : List Nat) (w : World) : Prop := ∀ i ∈ O', i ∈ O ∨ w.heap.size ≤ i
theorem OnlyO.trans (h : OnlyO O a b) (k : OnlyO O' b c) (hn : New O O' a) : OnlyO O a c :=
  ⟨k.os.trans h.os, k.tape.trans h.tape, k.output.trans h.output, Nat.le_trans h.size k.size, fun i hi hne => (k.block i (Nat.lt_of_lt_of_le hi h.size) (fun hm => by rcases hn i hm with h1 | h1; exact hne h1; omega)).trans (h.block i hi hne)⟩
theorem New.trans {O'' : List Nat} (h : New O O' a) (k : New O' O'' b) (hs : a.heap.size ≤ b.heap.size) : New O O'' a := fun i hi => by
  rcases k i hi with h1 | h1
  · exact h i h1
  · exact .inr (by omega)
theorem New.refl : New O O a := fun _ h => .inl h
theorem OnlyO.low (h : OnlyO O a b) {w : World} (hb : Below w.heap.size w a) (hO : ∀ i ∈ O, w.heap.size ≤ i) : Below w.heap.size w b :=
  ⟨h.os.trans hb.os, h.tape.trans hb.tape, h.output.trans hb.output, Nat.le_trans hb.size h.size, fun i hi => (h.block i (Nat.lt_of_lt_of_le hi hb.size) (fun hm => by have := hO i hm; omega)).trans (hb.block i hi)⟩
theorem OnlyO.set {i j : Nat} (h : OnlyO O a b) (hO : i ∈ O ∨ a.heap.size ≤ i) (v : Value) : OnlyO O a (b.setCell ⟨i, j, none⟩ v) := by
  have hs := Only1.set (R := i) (i := j) (w := b) v
  exact ⟨hs.os.trans h.os, hs.tape.trans h.tape, hs.output.trans h.output, Nat.le_trans h.size hs.size, fun k hk hn => (hs.block k (Nat.lt_of_lt_of_le hk h.size) (fun e => by subst e; rcases hO with h1 | h1; exact hn h1; omega)).trans (h.block k hk hn)⟩
theorem OnlyO.grown {g : Nat} (h : OnlyO O a b) (hg : b.grownBy c (some g)) (hO : g ∈ O ∨ a.heap.size ≤ g) : OnlyO O a c :=
  ⟨hg.os.trans h.os, hg.tape.trans h.tape, hg.output.trans h.output, Nat.le_trans h.size hg.size, fun k hk hn => (hg.block k (Nat.lt_of_lt_of_le hk h.size) (fun e => by obtain rfl := Option.some.inj e; rcases hO with h1 | h1; exact hn h1; omega)).trans (h.block k hk hn)⟩
end

/-- The program's Writer that has written t: P is its struct; it holds the blocks O. -/
def WrF (w : World) (O : List Nat) (P : Nat) (t : ByteArray) : Prop :=
  ∃ S B cap, O = [P, S, B] ∧ P ≠ S ∧ P ≠ B ∧ S ≠ B ∧ w.heap[P]? = some (.cells #[.pointer (some ⟨S, 0, none⟩), .int .i64 t.size] 88 (0, 0)) ∧
    w.heap[S]? = some (.cells #[.slice (some ⟨B, 0, none⟩) t.size cap] 120 (0, 0)) ∧ Row 5 w B cap (bl t)
def WrAt (w : World) (O : List Nat) (P : Nat) (t : ByteArray) : Prop :=
  (O = [P] ∧ w.heap[P]? = some (.cells #[.pointer none, .int .i64 0] 88 (0, 0)) ∧ t = .empty) ∨ WrF w O P t
theorem WrAt.low {w : World} {O : List Nat} {P : Nat} {t : ByteArray} (h : WrAt w O P t) : P ∈ O ∧ ∀ i ∈ O, i < w.heap.size := by
  rcases h with ⟨rfl, h, _⟩ | ⟨S, B, cap, rfl, _, _, _, h1, h2, h3⟩
  · exact ⟨by simp, fun i hi => by rw [List.mem_singleton] at hi; subst hi; exact (Array.getElem?_eq_some_iff.1 h).1⟩
  · refine ⟨by simp, fun i hi => ?_⟩
    simp only [List.mem_cons, List.not_mem_nil, or_false] at hi
    rcases hi with rfl | rfl | rfl
    · exact (Array.getElem?_eq_some_iff.1 h1).1
    · exact (Array.getElem?_eq_some_iff.1 h2).1
    · exact h3.low
theorem WrAt.keep {w w' : World} {O : List Nat} {P : Nat} {t : ByteArray} (h : WrAt w O P t) (hk : ∀ i ∈ O, w'.heap[i]? = w.heap[i]?) : WrAt w' O P t := by
  rcases h with ⟨rfl, h, e⟩ | ⟨S, B, cap, rfl, n1, n2, n3, h1, h2, h3⟩
  · exact .inl ⟨rfl, (hk P (by simp)).trans h, e⟩
  · exact .inr ⟨S, B, cap, rfl, n1, n2, n3, (hk P (by simp)).trans h1, (hk S (by simp)).trans h2, h3.block (hk B (by simp))⟩
theorem WrAt.below {w w' : World} {O : List Nat} {P : Nat} {t : ByteArray} (h : WrAt w O P t) (hb : Below w.heap.size w w') : WrAt w' O P t :=
  h.keep fun i hi => hb.block i (h.low.2 i hi)
/-- Beside what another one writes. -/
theorem WrAt.beside {w w' : World} {O O' : List Nat} {P : Nat} {t : ByteArray} (h : WrAt w O P t) (ho : OnlyO O' w w') (hd : ∀ i ∈ O, i ∉ O') : WrAt w' O P t :=
  h.keep fun i hi => ho.block i (h.low.2 i hi) (hd i hi)
theorem u8info : (Tryz.prog.info? 5).map (fun i => (i.zero, i.size, i.bytes)) = some (some (.int .u8 0), 1, 1) := by kernel_rfl

section
variable {w : World} {O : List Nat} {P : Nat} {t : ByteArray}
/-- What a call of put, or one that calls it, leaves. -/
def Wrote (w : World) (O : List Nat) (P : Nat) (t : ByteArray) (e : Ending) (w' : World) : Prop := e = .returned (.tuple #[]) ∧ ∃ O', WrAt w' O' P t ∧ New O O' w ∧ OnlyO O w w'
theorem size_cat (s t : ByteArray) : (s ++ t).size = s.size + t.size := ByteArray.size_append
set_option maxHeartbeats 4000000 in
set_option maxRecDepth 100000 in
theorem put_full (h : WrF w O P t) (s : ByteArray) (hts : t.size + s.size ≤ 140737488355328) :
    Calls Tryz.prog 82 #[.pointer (some ⟨P, 0, none⟩), .string s] w (Wrote w O P (t ++ s)) := by
  obtain ⟨i0, hi0, q0, q1, q2⟩ := info_parts u8info
  obtain ⟨S, B, cap, hO, hPS, hPB, hSB, hp, hsl, hrow⟩ := h
  have hOP : P ∈ O ∨ w.heap.size ≤ P := .inl (by rw [hO]; simp)
  have hOS : S ∈ O ∨ w.heap.size ≤ S := .inl (by rw [hO]; simp)
  have hOB : B ∈ O ∨ w.heap.size ≤ B := .inl (by rw [hO]; simp)
  clear hO
  have HP0 := Lib.hid hp
  have HS0 := Lib.hid hsl
  have HR0 := Lib.hid hrow
  have zP0 := cellH hp 0
  have zP1 := cellH hp 1
  have zS0 := cellH hsl 0
  simp at zP0 zP1 zS0
  clear hp hsl hrow
  go_enter Tryz.func82, Tryz.ntmps82
  go_wp2_with fail
  go_quiet (fail)
  go_wp2_with fail
  have HP := Lib.hid (show (w.drewN nq).heap[P]? = some (.cells #[.pointer (some ⟨S, 0, none⟩), .int .i64 t.size] 88 (0, 0)) from HP0.out)
  have HS := Lib.hid (show (w.drewN nq).heap[S]? = some (.cells #[.slice (some ⟨B, 0, none⟩) t.size cap] 120 (0, 0)) from HS0.out)
  have HR := Lib.hid (show Row 5 (w.drewN nq) B cap (bl t) from HR0.out.block rfl)
  have HO := Lib.hid (show OnlyO O w (w.drewN nq) from ⟨rfl, rfl, rfl, Nat.le_refl _, fun _ _ _ => rfl⟩)
  clear HP0 HS0 HR0 zP0 zP1 zS0
  generalize w.drewN nq = W at *
  have zP0 := cellH HP.out 0
  simp at zP0
  refine wp_region_noPanic ?_
  refine wp_region_held_drew (S := fun W' => W'.cell? ⟨P, 0, none⟩ = some (.pointer (some ⟨S, 0, none⟩))) (by kernel_rfl) (by exact zP0) (fun hHeld => ?_)
  clear zP0
  refine take_yes 0 30 (v := ?_) rfl rfl (by kernel_rfl) (by kernel_rfl) (by kernel_rfl) noPanic_any (by rfl) hHeld ?_ ?_
  rotate_left
  · intro wx hSw; (try dsimp only at hSw); go_simp <;> with_reducible rfl
  simp only [Act.put, List.setIfInBounds_toArray, List.set_cons_zero, List.set_cons_succ]
  refine take_yes 1 31 (v := ?_) rfl rfl (by kernel_rfl) (by kernel_rfl) (by kernel_rfl) noPanic_any (by rfl) hHeld ?_ ?_
  rotate_left
  · intro wx hSw; (try dsimp only at hSw); go_simp <;> with_reducible rfl
  simp only [Act.put, List.setIfInBounds_toArray, List.set_cons_zero, List.set_cons_succ]
  refine take_yes 2 32 (v := ?_) rfl rfl (by kernel_rfl) (by kernel_rfl) (by kernel_rfl) noPanic_any (by rfl) hHeld ?_ ?_
  rotate_left
  · intro wx hSw; (try dsimp only at hSw); go_simp <;> with_reducible rfl
  simp only [Act.put, List.setIfInBounds_toArray, List.set_cons_zero, List.set_cons_succ]
  refine take_yes 3 33 (v := ?_) rfl rfl (by kernel_rfl) (by kernel_rfl) (by kernel_rfl) noPanic_any (by rfl) hHeld ?_ ?_
  rotate_left
  · intro wx hSw; (try dsimp only at hSw); go_simp <;> with_reducible rfl
  simp only [Act.put, List.setIfInBounds_toArray, List.set_cons_zero, List.set_cons_succ]
  refine take_yes 4 34 (v := ?_) rfl rfl (by kernel_rfl) (by kernel_rfl) (by kernel_rfl) noPanic_any (by rfl) hHeld ?_ ?_
  rotate_left
  · intro wx hSw; (try dsimp only at hSw); go_simp <;> with_reducible rfl
  simp only [Act.put, List.setIfInBounds_toArray, List.set_cons_zero, List.set_cons_succ]
  refine take_yes 5 35 (v := ?_) rfl rfl (by kernel_rfl) (by kernel_rfl) (by kernel_rfl) noPanic_any (by rfl) hHeld ?_ ?_
  rotate_left
  · intro wx hSw; (try dsimp only at hSw); go_simp <;> with_reducible rfl
  simp only [Act.put, List.setIfInBounds_toArray, List.set_cons_zero, List.set_cons_succ]
  refine take_yes 6 36 (v := ?_) rfl rfl (by kernel_rfl) (by kernel_rfl) (by kernel_rfl) noPanic_any (by rfl) hHeld ?_ ?_
  rotate_left
  · intro wx hSw; (try dsimp only at hSw); go_simp <;> with_reducible rfl
  simp only [Act.put, List.setIfInBounds_toArray, List.set_cons_zero, List.set_cons_succ]
  refine take_yes 7 37 (v := ?_) rfl rfl (by kernel_rfl) (by kernel_rfl) (by kernel_rfl) noPanic_any (by rfl) hHeld ?_ ?_
  rotate_left
  · intro wx hSw; (try dsimp only at hSw); go_simp <;> with_reducible rfl
  simp only [Act.put, List.setIfInBounds_toArray, List.set_cons_zero, List.set_cons_succ]
  refine take_yes 8 38 (v := ?_) rfl rfl (by kernel_rfl) (by kernel_rfl) (by kernel_rfl) noPanic_any (by rfl) hHeld ?_ ?_
  rotate_left
  · intro wx hSw; (try dsimp only at hSw); go_simp <;> with_reducible rfl
  simp only [Act.put, List.setIfInBounds_toArray, List.set_cons_zero, List.set_cons_succ]
  refine take_yes 10 40 (v := ?_) rfl rfl (by kernel_rfl) (by kernel_rfl) (by kernel_rfl) noPanic_any (by rfl) hHeld ?_ ?_
  rotate_left
  · intro wx hSw; (try dsimp only at hSw); go_simp <;> with_reducible rfl
  simp only [Act.put, List.setIfInBounds_toArray, List.set_cons_zero, List.set_cons_succ]
  generalize hWd : W.drew = W0 at *
  have HP0 := Lib.hid (show W0.heap[P]? = some (.cells #[.pointer (some ⟨S, 0, none⟩), .int .i64 t.size] 88 (0, 0)) by rw [← hWd]; exact HP.out)
  have HS0 := Lib.hid (show W0.heap[S]? = some (.cells #[.slice (some ⟨B, 0, none⟩) t.size cap] 120 (0, 0)) by rw [← hWd]; exact HS.out)
  have HR0 := Lib.hid (show Row 5 W0 B cap (bl t) by rw [← hWd]; exact HR.out.block rfl)
  have HO0 := Lib.hid (show OnlyO O w W0 by rw [← hWd]; exact ⟨HO.out.os, HO.out.tape, HO.out.output, HO.out.size, HO.out.block⟩)
  clear hWd HP HS HR HO
  have zS0 := cellH HS0.out 0
  simp at zS0
  refine one_readyH (i := 9) (by kernel_rfl) (wpOp_step rfl (fun KK hKK => ?_))
  have HKK := Lib.hid hKK
  clear hKK
  go_simp
  refine HKK.out _ _ ⟨hHeld, ?_⟩
  clear HKK zS0 KK
  (try simp only [Act.put, List.setIfInBounds_toArray, List.set_cons_zero, List.set_cons_succ])
  refine one_readyH (i := 11) (by kernel_rfl) (wpOp_step rfl (fun KK hKK => ?_))
  have HKK := Lib.hid hKK
  clear hKK
  refine step_append_row rfl (.tmp 39) (.tmp 40) 120 9 rfl 5 i0 Tryz.underlying120 Tryz.underlying9 hi0 q0 q1 q2 B cap (bl t) HR0.out s (by rw [bl_len]; rfl) rfl (by rw [bl_len]; have := hts; omega) ?_
  intro B2 cap2 W1 hr1 hB2 hg1
  rw [bl_len] at *
  have hP1 := (hg1.block P (Array.getElem?_eq_some_iff.1 HP0.out).1 (by intro e; exact hPB (Option.some.inj e))).trans HP0.out
  have hS1 := (hg1.block S (Array.getElem?_eq_some_iff.1 HS0.out).1 (by intro e; exact hSB (Option.some.inj e))).trans HS0.out
  have HP1 := Lib.hid hP1
  have HS1 := Lib.hid hS1
  have HR1 := Lib.hid (show Row 5 W1 B2 cap2 (bl (t ++ s)) by rw [bl_append]; exact hr1)
  have hPl := (Array.getElem?_eq_some_iff.1 HP0.out).1
  have hSl := (Array.getElem?_eq_some_iff.1 HS0.out).1
  have hPB2 : P ≠ B2 := by rcases hB2 with h | h <;> omega
  have hSB2 : S ≠ B2 := by rcases hB2 with h | h <;> omega
  have HO1 := Lib.hid (HO0.out.grown hg1 hOB)
  have HB2 := Lib.hid (show B2 ∈ O ∨ w.heap.size ≤ B2 by
    rcases hB2 with h | h
    · rw [h]; exact hOB
    · right; rw [h]; exact HO0.out.size)
  clear hP1 hS1 hr1 hB2 hg1 HP0 HS0 HR0 HO0 hHeld hPl hSl
  have zP1 := cellH HP1.out 0
  simp at zP1
  refine HKK.out _ _ ⟨zP1, ?_⟩
  clear HKK KK
  (try simp only [Act.put, List.setIfInBounds_toArray])
  refine one_readyH (i := 12) (by kernel_rfl) (wpOp_step rfl (fun KK hKK => ?_))
  have HKK := Lib.hid hKK
  clear hKK
  go_simp
  refine HKK.out _ _ ⟨zP1, ?_⟩
  clear HKK KK
  (try simp only [Act.put, List.setIfInBounds_toArray])
  refine one_readyH (i := 13) (by kernel_rfl) (wpOp_step rfl (fun KK hKK => ?_))
  have HKK := Lib.hid hKK
  clear hKK
  have zS1 := cellH HS1.out 0
  have fS1 := freeH HS1.out
  simp at zS1
  go_simp
  have hP2 : (W1.setCell ⟨S, 0, none⟩ (.slice (some ⟨B2, 0, none⟩) (t.size + s.size) cap2)).heap[P]? = some (.cells #[.pointer (some ⟨S, 0, none⟩), .int .i64 t.size] 88 (0, 0)) := ((Only1.set (R := S) _).block P (Array.getElem?_eq_some_iff.1 HP1.out).1 hPS).trans HP1.out
  have zP2 := cellH hP2 0
  simp at zP2
  refine HKK.out _ _ ⟨zP2, ?_⟩
  refine wpAnyH_done (by kernel_rfl) ?_ _
  refine NoPanic.normal ?_
  have HP2 := Lib.hid hP2
  have HS2 := Lib.hid (show (W1.setCell ⟨S, 0, none⟩ (.slice (some ⟨B2, 0, none⟩) (t.size + s.size) cap2)).heap[S]? = some (.cells #[.slice (some ⟨B2, 0, none⟩) (t.size + s.size) cap2] 120 (0, 0)) by rw [row_set HS1.out]; rfl)
  have HR2 := Lib.hid (show Row 5 (W1.setCell ⟨S, 0, none⟩ (.slice (some ⟨B2, 0, none⟩) (t.size + s.size) cap2)) B2 cap2 (bl (t ++ s)) from HR1.out.block ((Only1.set (R := S) _).block B2 HR1.out.low (Ne.symm hSB2)))
  have HO2 := Lib.hid (HO1.out.set (i := S) (j := 0) hOS (.slice (some ⟨B2, 0, none⟩) (t.size + s.size) cap2))
  clear hP2 zP2 HKK KK HP1 HS1 HR1 HO1 zS1 fS1 zP1
  generalize W1.setCell ⟨S, 0, none⟩ (.slice (some ⟨B2, 0, none⟩) (t.size + s.size) cap2) = W2 at *
  have zP0 := cellH HP2.out 0
  have zP1 := cellH HP2.out 1
  have fP := freeH HP2.out
  have zS0 := cellH HS2.out 0
  simp at zP0 zP1 zS0
  go_wp2_with fail
  have hsz : (t.size : Int) + s.size = (t ++ s).size := by rw [size_cat]; omega
  have hsz2 : t.size + s.size = (t ++ s).size := (size_cat t s).symm
  go_end0
  refine ⟨rfl, [P, S, B2], .inr ⟨S, B2, cap2, rfl, hPS, hPB2, hSB2, by rw [row_set HP2.out, ← hsz]; rfl, ?_, HR2.out.block ((Only1.set (R := P) _).block B2 HR2.out.low (Ne.symm hPB2))⟩, ?_, HO2.out.set hOP _⟩
  · rw [← hsz2]
    exact ((Only1.set (R := P) _).block S (Array.getElem?_eq_some_iff.1 HS2.out).1 (Ne.symm hPS)).trans HS2.out
  · intro i hi
    simp only [List.mem_cons, List.not_mem_nil, or_false] at hi
    rcases hi with rfl | rfl | rfl
    · exact hOP
    · exact hOS
    · exact HB2.out
set_option maxHeartbeats 1000000 in
set_option maxRecDepth 100000 in
theorem str_new (h : w.heap[P]? = some (.cells #[.pointer none, .int .i64 0] 88 (0, 0))) : Calls Tryz.prog 46 #[.pointer (some ⟨P, 0, none⟩)] w fun e w' => e = .returned (.string .empty) ∧ w = w' := by
  have z0 := cellH h 0
  simp at z0
  clear h
  go_enter Tryz.func46, Tryz.ntmps46
  go_wp2_with fail
  go_ret
  exact ⟨rfl, rfl⟩
set_option maxHeartbeats 4000000 in
set_option maxRecDepth 100000 in
theorem put_new (h : w.heap[P]? = some (.cells #[.pointer none, .int .i64 0] 88 (0, 0))) (e0 s : ByteArray) (he0 : e0 = .empty) (hts : s.size ≤ 140737488355328) :
    Calls Tryz.prog 82 #[.pointer (some ⟨P, 0, none⟩), .string s] w (Wrote w [P] P (e0 ++ s)) := by
  obtain ⟨i0, hi0, q0, q1, q2⟩ := info_parts u8info
  have HSTR := Lib.hid (fun (W : World) (g : W.heap[P]? = some (.cells #[.pointer none, .int .i64 0] 88 (0, 0))) => str_new g)
  have HE0 := Lib.hid he0
  have HH := Lib.hid h
  have z0 := cellH h 0
  simp at z0
  clear h he0
  go_enter Tryz.func82, Tryz.ntmps82
  go_wp2_with fail
  go_quiet (fail)
  have HH1 := Lib.hid (show (w.drewN nq).heap[P]? = some (.cells #[.pointer none, .int .i64 0] 88 (0, 0)) from HH.out)
  have HOd := Lib.hid (show OnlyO [P] w (w.drewN nq) from ⟨rfl, rfl, rfl, Nat.le_refl _, fun _ _ _ => rfl⟩)
  clear HH z0
  generalize w.drewN nq = Wd at *
  go_wp2_with fail
  refine (HSTR.out _ HH1.out).mono ?_
  rintro e W0 ⟨rfl, rfl⟩
  rw [show (Value.string .empty) = .string e0 by rw [HE0.out]]
  have hcv := fun (W : World) => Lib.run_convert_string_bytes (P := Tryz.prog) W 9 120 5 e0 Tryz.underlying9 Tryz.underlying120 Tryz.underlying5
  have z0 := cellH HH1.out 0
  have fP := freeH HH1.out
  simp at z0
  clear HSTR
  obtain ⟨cap, hcap⟩ : ∃ cap, cap = grownCap Wd e0.size 0 5 := ⟨_, rfl⟩
  have hPl := (Array.getElem?_eq_some_iff.1 HH1.out).1
  have hbs := Lib.bytesWorld_size Wd 5 e0
  have hP1 : ((Lib.bytesWorld Wd 5 e0).alloc (.cells #[.slice (some ⟨Wd.heap.size, 0, none⟩) e0.size (grownCap Wd e0.size 0 5)] 120)).heap[P]? = some (.cells #[.pointer none, .int .i64 0] 88 (0, 0)) :=
    (heap_alloc_old _ _ (by rw [hbs]; omega)).trans ((Lib.bytesWorld_at_old Wd 5 e0 P hPl).trans HH1.out)
  have z1 := cellH hP1 0
  have f1 := freeH hP1 0
  simp only [List.getElem?_toArray, List.getElem?_cons_zero] at z1
  have HP1 := Lib.hid hP1
  have HBS := Lib.hid hbs
  have HCAP := Lib.hid hcap
  clear hP1 hbs hcap z0 fP
  go_wp2_with fail
  generalize hW : ((Lib.bytesWorld Wd 5 e0).alloc (.cells #[.slice (some ⟨Wd.heap.size, 0, none⟩) e0.size (grownCap Wd e0.size 0 5)] 120)).setCell ⟨P, 0, none⟩ (.pointer (some ⟨(Lib.bytesWorld Wd 5 e0).heap.size, 0, none⟩)) = W at *
  obtain ⟨S, hS⟩ : ∃ S, S = (Lib.bytesWorld Wd 5 e0).heap.size := ⟨_, rfl⟩
  obtain ⟨B, hB⟩ : ∃ B, B = Wd.heap.size := ⟨_, rfl⟩
  rw [← hS] at hW ⊢
  rw [← hB, ← HCAP.out] at hW ⊢
  have hPS : P ≠ S := by rw [hS, HBS.out]; omega
  have hPB : P ≠ B := by omega
  have hSB : S ≠ B := by rw [hS, HBS.out]; omega
  have hwl := HOd.out.size
  have hts : e0.size + s.size ≤ 140737488355328 := by rw [HE0.out]; simpa using hts
  have hOP : P ∈ [P] ∨ w.heap.size ≤ P := .inl (by simp)
  have hOS : S ∈ [P] ∨ w.heap.size ≤ S := .inr (by rw [hS, HBS.out]; omega)
  have hOB : B ∈ [P] ∨ w.heap.size ≤ B := .inr (by omega)
  have HP := Lib.hid (show W.heap[P]? = some (.cells #[.pointer (some ⟨S, 0, none⟩), .int .i64 e0.size] 88 (0, 0)) by
    rw [← hW]
    have h1 := HP1.out
    rw [← hB, ← HCAP.out] at h1
    rw [row_set h1, HE0.out]
    rfl)
  have HS := Lib.hid (show W.heap[S]? = some (.cells #[.slice (some ⟨B, 0, none⟩) e0.size cap] 120 (0, 0)) by
    rw [← hW]
    refine ((Only1.set (R := P) _).block S (by rw [hS]; simp) (Ne.symm hPS)).trans ?_
    rw [hS]
    exact made_at _ _)
  have HR := Lib.hid (show Row 5 W B cap (bl e0) by
    have h0 : bl e0 = [] := by rw [HE0.out]; rfl
    have hl : B < S := by rw [hS, HBS.out]; omega
    refine ⟨Lib.bytesCells Wd 5 e0, ((Lib.bytesCells Wd 5 e0).size, (Lib.bytesCells Wd 5 e0).size + 1), ?_, .inr (Nat.le_of_eq ?_), by rw [h0]; exact Nat.zero_le _, ?_, ?_, by rw [h0]; rfl⟩
    · rw [← hW]
      refine ((Only1.set (R := P) _).block B (by simp; omega) (Ne.symm hPB)).trans ?_
      refine (heap_alloc_old _ _ (by rw [← hS]; exact hl)).trans ?_
      rw [hB]
      exact Lib.bytesWorld_at_new Wd 5 e0
    · rw [HCAP.out]; simp [Lib.bytesCells, HE0.out]
    · rw [HCAP.out]; exact grownCap_le_maxLen _ _ _ _ (by rw [HE0.out]; unfold maxLen; decide)
    · rw [HCAP.out]; simp [Lib.bytesCells, HE0.out])
  have HO := Lib.hid (show OnlyO [P] w W by
    rw [← hW]
    refine OnlyO.set ?_ hOP _
    have h1 := Lib.bytesWorld_below Wd 5 e0
    exact HOd.out.trans (OnlyO.of_below (O := [P]) (h1.alloc h1.size _)) New.refl)
  clear hW HP1 HH1 HOd hS hB HBS HCAP z1 f1 hcv hPl hwl
  have zP0 := cellH HP.out 0
  simp at zP0
  refine wp_region_noPanic ?_
  refine wp_region_held_drew (S := fun W' => W'.cell? ⟨P, 0, none⟩ = some (.pointer (some ⟨S, 0, none⟩))) (by kernel_rfl) (by exact zP0) (fun hHeld => ?_)
  clear zP0
  refine take_yes 0 30 (v := ?_) rfl rfl (by kernel_rfl) (by kernel_rfl) (by kernel_rfl) noPanic_any (by rfl) hHeld ?_ ?_
  rotate_left
  · intro wx hSw; (try dsimp only at hSw); go_simp <;> with_reducible rfl
  simp only [Act.put, List.setIfInBounds_toArray, List.set_cons_zero, List.set_cons_succ]
  refine take_yes 1 31 (v := ?_) rfl rfl (by kernel_rfl) (by kernel_rfl) (by kernel_rfl) noPanic_any (by rfl) hHeld ?_ ?_
  rotate_left
  · intro wx hSw; (try dsimp only at hSw); go_simp <;> with_reducible rfl
  simp only [Act.put, List.setIfInBounds_toArray, List.set_cons_zero, List.set_cons_succ]
  refine take_yes 2 32 (v := ?_) rfl rfl (by kernel_rfl) (by kernel_rfl) (by kernel_rfl) noPanic_any (by rfl) hHeld ?_ ?_
  rotate_left
  · intro wx hSw; (try dsimp only at hSw); go_simp <;> with_reducible rfl
  simp only [Act.put, List.setIfInBounds_toArray, List.set_cons_zero, List.set_cons_succ]
  refine take_yes 3 33 (v := ?_) rfl rfl (by kernel_rfl) (by kernel_rfl) (by kernel_rfl) noPanic_any (by rfl) hHeld ?_ ?_
  rotate_left
  · intro wx hSw; (try dsimp only at hSw); go_simp <;> with_reducible rfl
  simp only [Act.put, List.setIfInBounds_toArray, List.set_cons_zero, List.set_cons_succ]
  refine take_yes 4 34 (v := ?_) rfl rfl (by kernel_rfl) (by kernel_rfl) (by kernel_rfl) noPanic_any (by rfl) hHeld ?_ ?_
  rotate_left
  · intro wx hSw; (try dsimp only at hSw); go_simp <;> with_reducible rfl
  simp only [Act.put, List.setIfInBounds_toArray, List.set_cons_zero, List.set_cons_succ]
  refine take_yes 5 35 (v := ?_) rfl rfl (by kernel_rfl) (by kernel_rfl) (by kernel_rfl) noPanic_any (by rfl) hHeld ?_ ?_
  rotate_left
  · intro wx hSw; (try dsimp only at hSw); go_simp <;> with_reducible rfl
  simp only [Act.put, List.setIfInBounds_toArray, List.set_cons_zero, List.set_cons_succ]
  refine take_yes 6 36 (v := ?_) rfl rfl (by kernel_rfl) (by kernel_rfl) (by kernel_rfl) noPanic_any (by rfl) hHeld ?_ ?_
  rotate_left
  · intro wx hSw; (try dsimp only at hSw); go_simp <;> with_reducible rfl
  simp only [Act.put, List.setIfInBounds_toArray, List.set_cons_zero, List.set_cons_succ]
  refine take_yes 7 37 (v := ?_) rfl rfl (by kernel_rfl) (by kernel_rfl) (by kernel_rfl) noPanic_any (by rfl) hHeld ?_ ?_
  rotate_left
  · intro wx hSw; (try dsimp only at hSw); go_simp <;> with_reducible rfl
  simp only [Act.put, List.setIfInBounds_toArray, List.set_cons_zero, List.set_cons_succ]
  refine take_yes 8 38 (v := ?_) rfl rfl (by kernel_rfl) (by kernel_rfl) (by kernel_rfl) noPanic_any (by rfl) hHeld ?_ ?_
  rotate_left
  · intro wx hSw; (try dsimp only at hSw); go_simp <;> with_reducible rfl
  simp only [Act.put, List.setIfInBounds_toArray, List.set_cons_zero, List.set_cons_succ]
  refine take_yes 10 40 (v := ?_) rfl rfl (by kernel_rfl) (by kernel_rfl) (by kernel_rfl) noPanic_any (by rfl) hHeld ?_ ?_
  rotate_left
  · intro wx hSw; (try dsimp only at hSw); go_simp <;> with_reducible rfl
  simp only [Act.put, List.setIfInBounds_toArray, List.set_cons_zero, List.set_cons_succ]
  generalize hWd : W.drew = W0 at *
  have HP0 := Lib.hid (show W0.heap[P]? = some (.cells #[.pointer (some ⟨S, 0, none⟩), .int .i64 e0.size] 88 (0, 0)) by rw [← hWd]; exact HP.out)
  have HS0 := Lib.hid (show W0.heap[S]? = some (.cells #[.slice (some ⟨B, 0, none⟩) e0.size cap] 120 (0, 0)) by rw [← hWd]; exact HS.out)
  have HR0 := Lib.hid (show Row 5 W0 B cap (bl e0) by rw [← hWd]; exact HR.out.block rfl)
  have HO0 := Lib.hid (show OnlyO [P] w W0 by rw [← hWd]; exact ⟨HO.out.os, HO.out.tape, HO.out.output, HO.out.size, HO.out.block⟩)
  clear hWd HP HS HR HO
  have zS0 := cellH HS0.out 0
  simp at zS0
  refine one_readyH (i := 9) (by kernel_rfl) (wpOp_step rfl (fun KK hKK => ?_))
  have HKK := Lib.hid hKK
  clear hKK
  go_simp
  refine HKK.out _ _ ⟨hHeld, ?_⟩
  clear HKK zS0 KK
  (try simp only [Act.put, List.setIfInBounds_toArray, List.set_cons_zero, List.set_cons_succ])
  refine one_readyH (i := 11) (by kernel_rfl) (wpOp_step rfl (fun KK hKK => ?_))
  have HKK := Lib.hid hKK
  clear hKK
  refine step_append_row rfl (.tmp 39) (.tmp 40) 120 9 rfl 5 i0 Tryz.underlying120 Tryz.underlying9 hi0 q0 q1 q2 B cap (bl e0) HR0.out s (by rw [bl_len]; rfl) rfl (by rw [bl_len]; have := hts; omega) ?_
  intro B2 cap2 W1 hr1 hB2 hg1
  rw [bl_len] at *
  have hP1 := (hg1.block P (Array.getElem?_eq_some_iff.1 HP0.out).1 (by intro e; exact hPB (Option.some.inj e))).trans HP0.out
  have hS1 := (hg1.block S (Array.getElem?_eq_some_iff.1 HS0.out).1 (by intro e; exact hSB (Option.some.inj e))).trans HS0.out
  have HP1 := Lib.hid hP1
  have HS1 := Lib.hid hS1
  have HR1 := Lib.hid (show Row 5 W1 B2 cap2 (bl (e0 ++ s)) by rw [bl_append]; exact hr1)
  have hPl := (Array.getElem?_eq_some_iff.1 HP0.out).1
  have hSl := (Array.getElem?_eq_some_iff.1 HS0.out).1
  have hPB2 : P ≠ B2 := by rcases hB2 with h | h <;> omega
  have hSB2 : S ≠ B2 := by rcases hB2 with h | h <;> omega
  have HO1 := Lib.hid (HO0.out.grown hg1 hOB)
  have HB2 := Lib.hid (show B2 ∈ [P] ∨ w.heap.size ≤ B2 by
    rcases hB2 with h | h
    · rw [h]; exact hOB
    · right; rw [h]; exact HO0.out.size)
  clear hP1 hS1 hr1 hB2 hg1 HP0 HS0 HR0 HO0 hHeld hPl hSl
  have zP1 := cellH HP1.out 0
  simp at zP1
  refine HKK.out _ _ ⟨zP1, ?_⟩
  clear HKK KK
  (try simp only [Act.put, List.setIfInBounds_toArray])
  refine one_readyH (i := 12) (by kernel_rfl) (wpOp_step rfl (fun KK hKK => ?_))
  have HKK := Lib.hid hKK
  clear hKK
  go_simp
  refine HKK.out _ _ ⟨zP1, ?_⟩
  clear HKK KK
  (try simp only [Act.put, List.setIfInBounds_toArray])
  refine one_readyH (i := 13) (by kernel_rfl) (wpOp_step rfl (fun KK hKK => ?_))
  have HKK := Lib.hid hKK
  clear hKK
  have zS1 := cellH HS1.out 0
  have fS1 := freeH HS1.out
  simp at zS1
  go_simp
  have hP2 : (W1.setCell ⟨S, 0, none⟩ (.slice (some ⟨B2, 0, none⟩) (e0.size + s.size) cap2)).heap[P]? = some (.cells #[.pointer (some ⟨S, 0, none⟩), .int .i64 e0.size] 88 (0, 0)) := ((Only1.set (R := S) _).block P (Array.getElem?_eq_some_iff.1 HP1.out).1 hPS).trans HP1.out
  have zP2 := cellH hP2 0
  simp at zP2
  refine HKK.out _ _ ⟨zP2, ?_⟩
  refine wpAnyH_done (by kernel_rfl) ?_ _
  refine NoPanic.normal ?_
  have HP2 := Lib.hid hP2
  have HS2 := Lib.hid (show (W1.setCell ⟨S, 0, none⟩ (.slice (some ⟨B2, 0, none⟩) (e0.size + s.size) cap2)).heap[S]? = some (.cells #[.slice (some ⟨B2, 0, none⟩) (e0.size + s.size) cap2] 120 (0, 0)) by rw [row_set HS1.out]; rfl)
  have HR2 := Lib.hid (show Row 5 (W1.setCell ⟨S, 0, none⟩ (.slice (some ⟨B2, 0, none⟩) (e0.size + s.size) cap2)) B2 cap2 (bl (e0 ++ s)) from HR1.out.block ((Only1.set (R := S) _).block B2 HR1.out.low (Ne.symm hSB2)))
  have HO2 := Lib.hid (HO1.out.set (i := S) (j := 0) hOS (.slice (some ⟨B2, 0, none⟩) (e0.size + s.size) cap2))
  clear hP2 zP2 HKK KK HP1 HS1 HR1 HO1 zS1 fS1 zP1
  generalize W1.setCell ⟨S, 0, none⟩ (.slice (some ⟨B2, 0, none⟩) (e0.size + s.size) cap2) = W2 at *
  have zP0 := cellH HP2.out 0
  have zP1 := cellH HP2.out 1
  have fP := freeH HP2.out
  have zS0 := cellH HS2.out 0
  simp at zP0 zP1 zS0
  go_wp2_with fail
  have hsz : (e0.size : Int) + s.size = (e0 ++ s).size := by rw [size_cat]; omega
  have hsz2 : e0.size + s.size = (e0 ++ s).size := (size_cat e0 s).symm
  go_end0
  refine ⟨rfl, [P, S, B2], .inr ⟨S, B2, cap2, rfl, hPS, hPB2, hSB2, by rw [row_set HP2.out, ← hsz]; rfl, ?_, HR2.out.block ((Only1.set (R := P) _).block B2 HR2.out.low (Ne.symm hPB2))⟩, ?_, HO2.out.set hOP _⟩
  · rw [← hsz2]
    exact ((Only1.set (R := P) _).block S (Array.getElem?_eq_some_iff.1 HS2.out).1 (Ne.symm hPS)).trans HS2.out
  · intro i hi
    simp only [List.mem_cons, List.not_mem_nil, or_false] at hi
    rcases hi with rfl | rfl | rfl
    · exact hOP
    · exact hOS
    · exact HB2.out
end
end Go.Proofs.YtfjaibaidpbppaaGreatDoor
