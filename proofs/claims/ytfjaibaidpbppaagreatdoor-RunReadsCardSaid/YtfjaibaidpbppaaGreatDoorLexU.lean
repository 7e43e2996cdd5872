/-
  Pipelines in memory, and what lies there while a text's lines are gone over. No conditions. What lies in memory while a text's tasks are laid: the lines with their numbers, the tasks. No conditions. The program's own, fault, mayStand and isName. Conditions: lengths. Plain words: a number's text is the library's numeral of it. No program is named here.
-/
import Derived.Test.YtfjaibaidpbppaaGreatDoorLexI
import Derived.Test.YtfjaibaidpbppaaGreatDoorLsX
import Derived.Laws.AppendOwn
import Derived.Deep.RegionLaw
import Derived.Test.YtfjaibaidpbppaaGreatDoorRng
import Derived.Test.YtfjaibaidpbppaaGreatDoorLsAw
import Derived.Test.YtfjaibaidpbppaaGreatDoorLexP
import Derived.Test.YtfjaibaidpbppaaGreatDoorLexA
namespace Go.Proofs.YtfjaibaidpbppaaGreatDoor
open Go.RowKit

/-- The numbers l stand at A. -/
def NatsAt (w : World) (A : Option Addr) (l : List Nat) : Prop := 0 < l.length → ∃ ad, A = some ad ∧ ∀ (i n : Nat), l[i]? = some n → w.cell? (ad.add i) = some (.int .i64 n)
theorem NatsAt.later {w w' : World} {A : Option Addr} {l : List Nat} (h : NatsAt w A l) (hb : Below w.heap.size w w') : NatsAt w' A l := fun hn => by
  obtain ⟨ad, e, hc⟩ := h hn
  exact ⟨ad, e, fun i n hi => cell_later hb (hc i n hi)⟩
theorem NatsAt.at_ {w : World} {A : Option Addr} {l : List Nat} (h : NatsAt w A l) {i n : Nat} (hi : l[i]? = some n) : ∃ ad, A = some ad ∧ w.cell? (ad.add i) = some (.int .i64 n) := by
  obtain ⟨ad, e, hc⟩ := h (by have := (List.getElem?_eq_some_iff.1 hi).1; omega)
  exact ⟨ad, e, hc i n hi⟩
/-- A task's cells; the tasks ts stand at A. -/
def tkC (t : TkP) (tv : Value) : List Value := [.string t.name, tv, .int .i64 t.retry, .int .i64 t.time, .int .i64 t.need, .int .i64 t.lv, .int .u16 t.st]
def TksAt (w : World) (A : Option Addr) (ts : List TkP) : Prop := 0 < ts.length → ∃ ad, A = some ad ∧ ∀ (i : Nat) (t : TkP), ts[i]? = some t → ∃ B c, (∀ (j : Nat) (v : Value), (tkC t (.slice B t.after.length c))[j]? = some v → w.cell? (ad.add (i * 7 + j)) = some v) ∧ NatsAt w B t.after ∧ t.after.length ≤ c
theorem TksAt.later {w w' : World} {A : Option Addr} {ts : List TkP} (h : TksAt w A ts) (hb : Below w.heap.size w w') : TksAt w' A ts := fun hn => by
  obtain ⟨ad, e, hc⟩ := h hn
  refine ⟨ad, e, fun i t hi => ?_⟩
  obtain ⟨B, c, h1, h2, h3⟩ := hc i t hi
  exact ⟨B, c, fun j v hj => cell_later hb (h1 j v hj), h2.later hb, h3⟩

/-- Rows of cells, one behind the other. -/
theorem flat_len {α : Type} (f : α → List Value) (k : Nat) (hf : ∀ x, (f x).length = k) : ∀ l : List α, (l.flatMap f).length = l.length * k
  | [] => by simp
  | x :: l => by
    simp only [List.flatMap_cons, List.length_append, hf, flat_len f k hf l, List.length_cons]
    rw [Nat.add_mul, Nat.one_mul, Nat.add_comm]
theorem flat_at {α : Type} (f : α → List Value) (k : Nat) (hf : ∀ x, (f x).length = k) : ∀ (l : List α) (i : Nat) (x : α) (j : Nat) (v : Value), l[i]? = some x → (f x)[j]? = some v → (l.flatMap f)[i * k + j]? = some v
  | [], i, x, j, v, h, _ => by simp at h
  | y :: l, 0, x, j, v, h, hv => by
    obtain rfl : y = x := by simpa using h
    rw [Nat.zero_mul, Nat.zero_add, List.flatMap_cons, List.getElem?_append_left (List.getElem?_eq_some_iff.1 hv).1]
    exact hv
  | y :: l, i + 1, x, j, v, h, hv => by
    have h' : l[i]? = some x := by simpa using h
    have ih := flat_at f k hf l i x j v h' hv
    rw [List.flatMap_cons, List.getElem?_append_right (by rw [hf, Nat.add_mul, Nat.one_mul]; omega), hf, show (i + 1) * k + j - k = i * k + j by rw [Nat.add_mul, Nat.one_mul]; omega]
    exact ih
/-- One cell of one of them is another one. -/
theorem flat_set {α : Type} (f : α → List Value) (k : Nat) (hf : ∀ x, (f x).length = k) : ∀ (l : List α) (i : Nat) (x y : α) (j : Nat) (v : Value), l[i]? = some x → j < k → f y = (f x).set j v → (l.flatMap f).set (i * k + j) v = (l.set i y).flatMap f
  | [], i, x, y, j, v, h, _, _ => by simp at h
  | z :: l, 0, x, y, j, v, h, hj, e => by
    obtain rfl : z = x := by simpa using h
    rw [Nat.zero_mul, Nat.zero_add, List.set_cons_zero, List.flatMap_cons, List.flatMap_cons, e, List.set_append_left _ _ (by rw [hf]; exact hj)]
  | z :: l, i + 1, x, y, j, v, h, hj, e => by
    have h' : l[i]? = some x := by simpa using h
    have ih := flat_set f k hf l i x y j v h' hj e
    rw [List.set_cons_succ, List.flatMap_cons, List.flatMap_cons, List.set_append_right _ _ (by rw [hf, Nat.add_mul, Nat.one_mul]; omega), hf, show (i + 1) * k + j - k = i * k + j by rw [Nat.add_mul, Nat.one_mul]; omega, ih]

section
variable {w W W' : World} {b : Nat} {ns : List ByteArray} {ys : List (LnP × Value)} {vn vl vn' vl' : Value}
end
def ParseOut (w : World) (r : FaP ⊕ PiP) (e : Ending) (w' : World) : Prop := Below w.heap.size w w' ∧ match r with
  | .inl f => e = .returned (.tuple #[.agg #[.string ⟨#[]⟩, .slice none 0 0], .int .i64 f.e, .int .i64 f.p])
  | .inr p => ∃ A c, e = .returned (.tuple #[.agg #[.string p.name, .slice A p.tasks.length c], .int .i64 0, .int .i64 0]) ∧ TksAt w' A p.tasks
theorem info_pi : (Tryz.prog.info? 24).map (·.size) = some 2 := by kernel_rfl
theorem info_task : (Tryz.prog.info? 65).map (fun i => (i.zero, i.size, i.bytes)) = some (some (.agg #[.string ⟨#[]⟩, .slice none 0 0, .int .i64 0, .int .i64 0, .int .i64 0, .int .i64 0, .int .u16 0]), 7, 80) := by kernel_rfl
theorem info_int : (Tryz.prog.info? 3).map (fun i => (i.zero, i.size, i.bytes)) = some (some (.int .i64 0), 1, 8) := by kernel_rfl
end Go.Proofs.YtfjaibaidpbppaaGreatDoor

namespace Go.Proofs.YtfjaibaidpbppaaGreatDoor
open Go.RowKit

theorem drop_any {α : Type} {l : List α} {k : Nat} {y : α} (h : l[k]? = some y) : l.drop k = y :: l.drop (k + 1) := by
  obtain ⟨hk, rfl⟩ := List.getElem?_eq_some_iff.1 h
  exact List.drop_eq_getElem_cons hk
def set2 (W : World) (B : Nat) (n : ByteArray) (v : Value) : World := (W.setCell ⟨B, 0, none⟩ (.string n)).setCell ⟨B, 1, none⟩ v
section
variable {w W : World} {B : Nat} {cs : Array Value} {t : TypeId} {m : Nat × Nat}
theorem set2_row (h : W.heap[B]? = some (.cells cs t m)) (hc : cs.size = 2) (n : ByteArray) (v : Value) : (set2 W B n v).heap[B]? = some (.cells #[.string n, v] t m) := by
  have h0 := row_set (i := 0) (v := .string n) h
  have h1 := row_set (i := 1) (v := v) h0
  refine h1.trans ?_
  have : cs = #[cs[0]'(by omega), cs[1]'(by omega)] := by
    apply Array.ext
    · simpa using hc
    · intro i h1 h2
      have : i = 0 ∨ i = 1 := by omega
      rcases this with rfl | rfl <;> rfl
  rw [this]
  simp
theorem set2_below (h : Below w.heap.size w W) (n : ByteArray) (v : Value) : Below w.heap.size w (set2 W w.heap.size n v) :=
  (h.setCell (p := ⟨w.heap.size, 0, none⟩) (Nat.le_refl _) (.string n)).setCell (p := ⟨w.heap.size, 1, none⟩) (Nat.le_refl _) v
theorem set2_other {g : Nat} (hg : g ≠ B) (n : ByteArray) (v : Value) : (set2 W B n v).heap[g]? = W.heap[g]? := by
  have o : ∀ (V : World) (i : Nat) (v : Value), (V.setCell ⟨B, i, none⟩ v).heap[g]? = V.heap[g]? := fun V i v => Below.heap_setCell V ⟨B, i, none⟩ v g (by simpa using hg)
  unfold set2
  rw [o, o]
theorem set2_cell {x : Addr} (hx : x.block ≠ B) (n : ByteArray) (v : Value) : (set2 W B n v).cell? x = W.cell? x := by
  unfold World.cell?
  rw [set2_other hx]
/-- A result of two cells is written. -/
theorem fin2 (hz : W.heap[w.heap.size]? = some (.cells cs t (0, 0))) (hc : cs.size = 2) (hb : Below w.heap.size w W) (n : ByteArray) (v : Value) : (set2 W w.heap.size n v).heap[w.heap.size]? = some (.cells #[.string n, v] t (0, 0)) ∧ Below w.heap.size w (set2 W w.heap.size n v) :=
  ⟨set2_row hz hc n v, set2_below hb n v⟩
end

/-- append onto a row of the call's own, as one step of a region that draws. -/
theorem step_append_own {P : Program} (w : World) {ops : Array Oper} {o : Oper} {a : Act} {K : Act → World → Prop} {Q : Exit → Act → World → Prop} {E : Prop} (hgd : o.guard = none) (s x : Operand) (t : TypeId)
    (ho : o.op = .call { callee := .builtin .append, args := #[s, x], argTypes := #[t, t] })
    (base : Nat) (e : TypeId) (i : TypeInfo) (z : Value) (size bytes : Nat) (ht : P.underlying t = some (.slice e)) (hi : P.info? e = some i) (hz : i.zero = some z)
    (hsize : i.size = size) (hby : i.bytes = bytes) (hzs : z.cells.size = size) (hsz : 0 < size)
    (v : Value) (n : Nat) (xs : List Value) (hs : a.eval s = v) (hown : w.ownsRow base e size v n xs)
    (ad : Addr) (m c : Nat) (news : List Value) (hx : a.eval x = .slice (some ad) m c) (hl : news.length = m * size) (hnews : ∀ j u, news[j]? = some u → w.cell? (ad.add j) = some u) (h1 : ∀ u ∈ news, u.oneCell' = true)
    (h63 : n + m ≤ maxLen) (hbytes : (n + m) * bytes ≤ 140737488355328) (hbase : base ≤ w.heap.size)
    (h : ∀ v' w', w'.ownsRow base e size v' (n + m) (xs ++ news) → w.grownBy w' v.ownBlock → (v' = .slice none 0 0 ↔ v = .slice none 0 0 ∧ m = 0) → K (a.put o.dst v') w') :
    if Region.wanted o (yielded ops a.tmps) = true then Oper.wp P o a w K Q else E := by
  have hw : Region.wanted o (yielded ops a.tmps) = true := by simp [Region.wanted, hgd]
  rw [if_pos hw]
  exact wp_append_own w s x t ho base e i z size bytes ht hi hz hsize hby hzs hsz v n xs hs hown ad m c news hx hl hnews h1 h63 hbytes hbase h

/-- Numbers in a row of their own, in a block below lb. -/
def NatsRow (w : World) (lb : Nat) (A : Option Addr) (l : List Nat) : Prop := 0 < l.length → ∃ (g : Nat) (cur : Array Value), A = some ⟨g, 0, none⟩ ∧ g < lb ∧ w.heap[g]? = some (.cells cur 3 (0, 0)) ∧ cur.toList.take l.length = l.map (fun n => Value.int .i64 (n : Nat))
theorem NatsRow.nats {w : World} {lb : Nat} {A : Option Addr} {l : List Nat} (h : NatsRow w lb A l) : NatsAt w A l := fun hn => by
  obtain ⟨g, cur, rfl, _, h1, h2⟩ := h hn
  refine ⟨_, rfl, fun i n hi => ?_⟩
  have hadd : (⟨g, 0, none⟩ : Addr).add i = ⟨g, i, none⟩ := by unfold Addr.add; split <;> simp_all
  rw [hadd, cellH h1]
  have h3 : (cur.toList.take l.length)[i]? = some (Value.int .i64 (n : Nat)) := by rw [h2, List.getElem?_map, hi]; rfl
  rw [List.getElem?_take] at h3
  split at h3
  · simpa using h3
  · exact absurd h3 (by simp)
theorem NatsRow.frame {w w' : World} {lb lb' : Nat} {A : Option Addr} {l : List Nat} (h : NatsRow w lb A l) (hl : lb ≤ lb') (hf : ∀ (g : Nat) (cur : Array Value), g < lb → w.heap[g]? = some (.cells cur 3 (0, 0)) → w'.heap[g]? = w.heap[g]?) : NatsRow w' lb' A l := fun hn => by
  obtain ⟨g, cur, e, h0, h1, h2⟩ := h hn
  exact ⟨g, cur, e, Nat.lt_of_lt_of_le h0 hl, (hf g cur h0 h1).trans h1, h2⟩
theorem nats_own {W : World} {b n : Nat} {v : Value} {l : List Nat} (h : W.ownsRow b 3 1 v n (l.map (fun n => Value.int .i64 (n : Nat)))) : ∃ A c, v = .slice A l.length c ∧ NatsRow W W.heap.size A l ∧ l.length ≤ c := by
  have hl := h.1
  rw [List.length_map, Nat.mul_one] at hl
  rcases h.2 with ⟨rfl, e⟩ | ⟨g, cap, cur, rfl, _, hq, hcp, _, _, ht⟩
  · exact ⟨none, 0, by rw [hl, e], fun h0 => absurd h0 (by omega), by omega⟩
  · rw [hl]
    refine ⟨_, cap, rfl, fun _ => ⟨g, cur, rfl, (Array.getElem?_eq_some_iff.1 hq).1, hq, ?_⟩, hcp⟩
    rw [hl]
    simpa using ht

/-- A line's cells, its numbers among them. -/
def lnI (z : LnP × Value × Value) : List Value := [.string z.1.name, z.2.2, .int .i64 z.1.retry, .int .i64 z.1.time, .int .i64 z.1.need, .int .i64 z.1.lv, .int .u16 z.1.st, z.2.1]
section
variable {w W W' : World} {b P g lb : Nat} {nm : ByteArray} {ns : List ByteArray} {vn vt : Value} {zs : List (LnP × Value × Value)} {qs : List (TkP × Value)}
theorem row_keep {B q i : Nat} {v : Value} (hq : q ≠ B) : (W.setCell ⟨B, i, none⟩ v).heap[q]? = W.heap[q]? := Below.heap_setCell W ⟨B, i, none⟩ v q (by simpa using hq)
end
end Go.Proofs.YtfjaibaidpbppaaGreatDoor

namespace Go.Proofs.YtfjaibaidpbppaaGreatDoor
open Go.RowKit

theorem info_word : (Tryz.prog.info? 148).map (·.size) = some 2 := by kernel_rfl
section
variable {w : World}
set_option maxHeartbeats 1000000 in
set_option maxRecDepth 100000 in
theorem own_is (w : World) (t : ByteArray) (p : Int) (ht : t.size ≤ 1000000000) : Calls Tryz.prog 118 #[wdV t p] w fun e w' => e = .returned (wdV t p) ∧ Below w.heap.size w w' := by
  have HC := Lib.hid (fun W : World => clone_is W t ht)
  clear ht
  go_enter Tryz.func118, Tryz.ntmps118
  go_wp2_with fail
  have m1 := later_at ((Below.refl _ _).alloc (Nat.le_refl _) (.cells #[.string ⟨#[]⟩, .int .i64 0] 148)) (made_at w (.cells #[.string t, .int .i64 p] 148))
  have m2 := made_at (w.alloc (.cells #[.string t, .int .i64 p] 148)) (.cells #[.string ⟨#[]⟩, .int .i64 0] 148)
  have b1 := ((Below.refl w.heap.size w).alloc (Nat.le_refl _) (.cells #[.string t, .int .i64 p] 148)).alloc (by simp) (.cells #[.string ⟨#[]⟩, .int .i64 0] 148)
  rw [World.size_alloc] at m2
  obtain ⟨W0, hW0⟩ : ∃ W0, (w.alloc (.cells #[.string t, .int .i64 p] 148)).alloc (.cells #[.string ⟨#[]⟩, .int .i64 0] 148) = W0 := ⟨_, rfl⟩
  rw [hW0] at m1 m2 b1 ⊢
  clear hW0
  have x0 := cellH m1 0
  have x1 := cellH m1 1
  simp at x0 x1
  have M1 := Lib.hid m1
  have M2 := Lib.hid m2
  have B1 := Lib.hid b1
  clear m1 m2 b1
  go_region_with (go_at_call 77; refine (HC.out _).mono ?_; rintro e w1 ⟨rfl, hb⟩; have N1 := Lib.hid (later_at hb (show W0.drew.heap[w.heap.size]? = _ from M1.out)); have N2 := Lib.hid (later_at hb (show W0.drew.heap[w.heap.size + 1]? = _ from M2.out)); have NB := Lib.hid ((B1.out.drew).trans (hb.mono B1.out.size)); clear x0 x1 hb; have x1 := cellH N1.out 1; have y0 := cellH N2.out 0; have y1 := cellH N2.out 1; have f0 := freeH N2.out 0; have f1 := freeH N2.out 1; simp at x1 y0 y1)
  all_goals
    have R := Lib.hid (row_set (i := 1) (v := .int .i64 p) (row_set (i := 0) (v := .string t) N2.out))
    have NB2 := Lib.hid ((NB.out.setCell (p := ⟨w.heap.size + 1, 0, none⟩) (by show w.heap.size ≤ w.heap.size + 1; omega) (.string t)).setCell (p := ⟨w.heap.size + 1, 1, none⟩) (by show w.heap.size ≤ w.heap.size + 1; omega) (.int .i64 p))
    clear x1 y0 y1 f0 f1
    go_wp2_with fail
    exact bodyPost_ret (results_cell_row (fn := Tryz.f118) rfl _ _ (w.heap.size + 1) 148 #[.string t, .int .i64 p] (0, 0) _ rfl (R.out.trans (by simp)) Tryz.underlying148 rfl info_word) rfl ⟨rfl, NB2.out⟩
set_option maxHeartbeats 1000000 in
set_option maxRecDepth 100000 in
theorem fault_is (w : World) (a e : Int) : Calls Tryz.prog 117 #[.int .i64 a, .int .i64 e] w fun x w' => ∃ F, x = .returned (fltV F) ∧ FaultAt w' F a e ∧ w.heap.size ≤ F ∧ Below w.heap.size w w' := by
  go_enter Tryz.func117, Tryz.ntmps117
  go_wp2_with fail
  go_ret
  exact ⟨_, rfl, made_at _ _, Nat.le_refl _, (Below.refl _ _).alloc (Nat.le_refl _) _⟩
set_option maxHeartbeats 1000000 in
set_option maxRecDepth 100000 in
theorem isname_is (s : ByteArray) (w : World) : Calls Tryz.prog 116 #[.string s] w fun e w' => e = .returned (.bool (nameP s)) ∧ w = w' := by
  obtain ⟨b, hb⟩ : ∃ b, b = nameP s := ⟨_, rfl⟩
  rw [← hb]
  have HB := Lib.hid hb
  have HBY := Lib.hid (byL_at s)
  clear hb
  by_cases h0 : s.size = 0
  · obtain rfl := size_zero.1 h0
    have HV := Lib.hid (show b = false from HB.out.trans (by decide))
    go_enter Tryz.func116, Tryz.ntmps116
    go_wp2_with fail
    go_ret
    exact ⟨by rw [HV.out]; rfl, rfl⟩
  · have e0 : s.toList.isEmpty = false := ba_some (fun h => h0 (size_zero.2 h))
    by_cases h8 : 8 < s.size
    · have HV := Lib.hid (show b = false from HB.out.trans (decide_eq_false (fun h => by have := h.2.1; omega)))
      go_enter Tryz.func116, Tryz.ntmps116
      go_wp2_with fail
      go_ret
      exact ⟨by rw [HV.out]; rfl, rfl⟩
    · go_enter Tryz.func116, Tryz.ntmps116
      go_wp2_with fail
      go_loopw [13] (fun i wr => ∃ k : Nat, i = .int .i64 k ∧ k ≤ s.size ∧ wr = w ∧ ∀ j, j < k → 97 ≤ byL s j ∧ byL s j ≤ 122) (fun i _ => s.size - (intOf i).toNat)
      case atStart => exact ⟨0, rfl, Nat.zero_le _, rfl, fun j h => absurd h (by omega)⟩
      case round =>
        obtain ⟨k, rfl, hk, rfl, hall⟩ := hrel
        have HALL := Lib.hid hall
        clear hall
        by_cases hlt : k < s.size
        · have hB : ∀ h : k < s.size, ((s[k]'h).toNat : Int) = byL s k := HBY.out k
          by_cases h1 : byL s k < 97
          · have HV := Lib.hid (show b = false from HB.out.trans (decide_eq_false (fun h => by have := h.2.2 k hlt; omega)))
            go_wp2_with fail
            go_ret
            exact ⟨by rw [HV.out]; rfl, rfl⟩
          · by_cases h2 : 122 < byL s k
            · have HV := Lib.hid (show b = false from HB.out.trans (decide_eq_false (fun h => by have := h.2.2 k hlt; omega)))
              go_wp2_with fail
              go_ret
              exact ⟨by rw [HV.out]; rfl, rfl⟩
            · go_wp2_with fail
              go_roundw
              case rel => exact ⟨k + 1, by go_num, by omega, trivial, fun j hj => by
                rcases Nat.lt_or_ge j k with h | h
                · exact HALL.out j h
                · obtain rfl : j = k := by omega
                  omega⟩
              case measure => simp [intOf]; omega
        · obtain rfl : k = s.size := by omega
          have HV := Lib.hid (show b = true from HB.out.trans (decide_eq_true ⟨by omega, by omega, HALL.out⟩))
          go_wp2_with fail
          go_ret
          exact ⟨by rw [HV.out]; rfl, rfl⟩
end
end Go.Proofs.YtfjaibaidpbppaaGreatDoor

namespace Go.Proofs.YtfjaibaidpbppaaGreatDoor

theorem digN_back : ∀ (k : Nat) (l : List UInt8), l.length = k → 1 ≤ k → (∀ d ∈ l, 48 ≤ d.toNat ∧ d.toNat ≤ 57) → (1 < k → ∀ d, l[0]? = some d → d.toNat ≠ 48) → digN (valD l) = l
  | 0, _, _, h, _, _ => absurd h (by omega)
  | k + 1, l, hk, _, hd, h0 => by
    obtain ⟨l', d, rfl⟩ : ∃ l' d, l = l' ++ [d] := by
      cases hl : l.reverse with
      | nil => rw [List.reverse_eq_nil_iff] at hl; subst hl; simp at hk
      | cons d r => exact ⟨r.reverse, d, by rw [← List.reverse_reverse l, hl, List.reverse_cons]⟩
    have hl' : l'.length = k := by simpa using hk
    have hdd := hd d (by simp)
    have hds : UInt8.ofNat (48 + (d.toNat - 48)) = d := by
      apply UInt8.toNat_inj.1
      rw [dig_val (by omega)]
      omega
    rw [valD_snoc]
    by_cases hk0 : k = 0
    · obtain rfl : l' = [] := List.eq_nil_of_length_eq_zero (by omega)
      have : valD [] = 0 := rfl
      rw [this, digN_low (by omega), show 10 * 0 + (d.toNat - 48) = d.toNat - 48 by omega, hds]
      rfl
    · obtain ⟨c, r, e⟩ : ∃ c r, l' = c :: r := by
        cases l' with
        | nil => simp at hl'; omega
        | cons c r => exact ⟨c, r, rfl⟩
      have hc := h0 (by omega) c (by rw [e]; simp)
      have hc2 := hd c (by rw [e]; simp)
      have hv : 1 ≤ valD l' := by
        have h1 := valD_le [c] r
        rw [List.singleton_append, ← e] at h1
        have h2 : valD [c] = c.toNat - 48 := by simp [valD]
        omega
      have ih := digN_back k l' hl' (by omega) (fun x hx => hd x (List.mem_append_left _ hx)) (fun _ x hx => h0 (by omega) x (by rw [e] at hx ⊢; simpa using hx))
      rw [digN_more (by omega), show (10 * valD l' + (d.toNat - 48)) / 10 = valD l' by omega, show (10 * valD l' + (d.toNat - 48)) % 10 = d.toNat - 48 by omega, ih, hds]
theorem digN_lt (n : Nat) : ∀ k, (digN n).length ≤ k → n < 10 ^ k := by
  induction n using Nat.strongRecOn with
  | ind n ih =>
    intro k hk
    have hp := digN_pos n
    obtain ⟨j, rfl⟩ : ∃ j, k = j + 1 := ⟨k - 1, by omega⟩
    rw [Nat.pow_succ]
    by_cases h : n < 10
    · have : 0 < 10 ^ j := Nat.pow_pos (by omega)
      omega
    · rw [digN_more h, List.length_append, List.length_singleton] at hk
      have := ih (n / 10) (by omega) j (by omega)
      omega
section
variable {t : ByteArray}
theorem byL_get {k : Nat} (h : k < t.size) : ∃ d, (bl t)[k]? = some d ∧ byL t k = (d.toNat : Int) := by
  have h2 : k < (bl t).length := by rw [bl_len]; exact h
  refine ⟨_, List.getElem?_eq_getElem h2, ?_⟩
  unfold byL
  rw [List.getD_eq_getElem?_getD, List.getElem?_eq_getElem h2]
  rfl
theorem valN_D (hd : ∀ j, j < t.size → 48 ≤ byL t j ∧ byL t j ≤ 57) : ∀ k, k ≤ t.size → valN t k = (valD ((bl t).take k) : Int)
  | 0, _ => rfl
  | k + 1, h => by
    have hlt : k < (bl t).length := by rw [bl_len]; omega
    have h1 := hd k (by omega)
    obtain ⟨d, e1, e2⟩ := byL_get (t := t) (k := k) (by omega)
    have e3 : (bl t)[k] = d := by rw [List.getElem?_eq_getElem hlt] at e1; exact Option.some.inj e1
    rw [take_next _ _ hlt, e3]
    unfold valN
    rw [valN_D hd k (by omega), e2]
    omega
/-- A number's text is its numeral. -/
theorem num_head (h : numOk t) : 0 ≤ valN t t.size ∧ valN t t.size < 1000000000 ∧ headT (valN t t.size) = bl t := by
  obtain ⟨h1, h2, h3, h4⟩ := h
  have hv := valN_D h4 t.size (Nat.le_refl _)
  rw [← bl_len, List.take_length] at hv
  rw [bl_len] at hv
  have hdd : ∀ d ∈ bl t, 48 ≤ d.toNat ∧ d.toNat ≤ 57 := fun d hd => by
    obtain ⟨i, hi, he⟩ := List.mem_iff_getElem.1 hd
    rw [bl_len] at hi
    have h5 := h4 i hi
    obtain ⟨d', e1, e2⟩ := byL_get hi
    have : d' = d := by
      have hi2 : i < (bl t).length := by rw [bl_len]; exact hi
      rw [List.getElem?_eq_getElem hi2, he] at e1
      exact (Option.some.inj e1).symm
    subst this
    omega
  have hb := digN_back (bl t).length (bl t) rfl (by rw [bl_len]; exact h1) hdd (fun hk d hd e => by
    rw [bl_len] at hk
    obtain ⟨d', e1, e2⟩ := byL_get (t := t) (k := 0) (by omega)
    rw [hd] at e1
    obtain rfl := Option.some.inj e1
    have := h3 hk
    omega)
  have hlt : valD (bl t) < 1000000000 := by
    have h5 := digN_lt (valD (bl t)) (bl t).length (by rw [hb]; exact Nat.le_refl _)
    rw [bl_len] at h5
    have h6 : 10 ^ t.size ≤ 10 ^ 9 := Nat.pow_le_pow_right (by omega) h2
    omega
  refine ⟨by omega, by omega, ?_⟩
  unfold headT
  rw [if_neg (by omega), hv]
  simpa using hb
theorem head_num {n : Int} (h0 : 0 ≤ n) (h : headT n = bl t) (hs : t.size ≤ 9) : numOk t ∧ valN t t.size = n := by
  have hh : digN n.natAbs = bl t := by
    unfold headT at h
    rw [if_neg (by omega)] at h
    simpa using h
  have hdd : ∀ j, j < t.size → 48 ≤ byL t j ∧ byL t j ≤ 57 := fun j hj => by
    obtain ⟨d, e1, e2⟩ := byL_get hj
    have := digN_digit n.natAbs d (by rw [hh]; exact List.mem_of_getElem? e1)
    omega
  have h1 : 1 ≤ t.size := by rw [← bl_len, ← hh]; exact digN_pos _
  have hok : numOk t := by
    refine ⟨h1, hs, fun hk e => ?_, hdd⟩
    by_cases hz : n = 0
    · subst hz
      have h9 : t.size = 1 := by
        rw [← bl_len, ← hh]
        show (digN 0).length = 1
        rw [digN_low (by omega)]
        rfl
      omega
    · obtain ⟨d, l, e1, e2, _⟩ := digN_head (n := n.natAbs) (by omega)
      rw [hh] at e1
      obtain ⟨d', e3, e4⟩ := byL_get (t := t) (k := 0) (by omega)
      rw [e1] at e3
      obtain rfl : d = d' := by simpa using e3
      omega
  refine ⟨hok, ?_⟩
  have hv := valN_D hdd t.size (Nat.le_refl _)
  have e : (bl t).take t.size = bl t := by rw [← bl_len, List.take_length]
  rw [e, ← hh, digN_val] at hv
  omega
theorem numP_long {lo hi : Int} (h : 9 < t.size) : numP t lo hi = none := if_neg (fun k => by have := k.1.2.1; omega)
theorem numP_none {lo hi : Int} (h : ∀ v, Lib.atoiAll (bl t) ≠ .ok v) : numP t lo hi = none := if_neg (fun k => by
  obtain ⟨a, b, c⟩ := num_head k.1
  exact h _ (by rw [← c]; exact atoi_head (by omega) (by omega)))
theorem numP_other {lo hi n : Int} (h : Lib.atoiAll (bl t) = .ok n) (hn : headT n ≠ bl t) : numP t lo hi = none := if_neg (fun k => by
  obtain ⟨a, b, c⟩ := num_head k.1
  have := atoi_head (n := valN t t.size) (by omega) (by omega)
  rw [c, h] at this
  injection this with e
  rw [e] at hn
  exact hn c)
theorem numP_low {lo hi n : Int} (hn : headT n = bl t) (h : n < 0 ∨ n < lo) : numP t lo hi = none := if_neg (fun k => by
  obtain ⟨a, b, c⟩ := num_head k.1
  have e := headT_inj (hn.trans c.symm)
  have := k.2.1
  omega)
theorem numP_high {lo hi n : Int} (hn : headT n = bl t) (h : hi < n) : numP t lo hi = none := if_neg (fun k => by
  obtain ⟨a, b, c⟩ := num_head k.1
  have e := headT_inj (hn.trans c.symm)
  have := k.2.2
  omega)
theorem numP_yes {lo hi n : Int} (hn : headT n = bl t) (hs : t.size ≤ 9) (h0 : 0 ≤ n) (h1 : lo ≤ n) (h2 : n ≤ hi) : numP t lo hi = some n := by
  obtain ⟨a, b⟩ := head_num h0 hn hs
  unfold numP
  rw [b, if_pos ⟨a, h1, h2⟩]
end
end Go.Proofs.YtfjaibaidpbppaaGreatDoor
