/-
  What lies in memory while a text's tasks are laid: the lines with their numbers, the tasks. No conditions.
-/
import Derived.Test.YtpndjeccfdcjpaaManF
import Derived.Test.YtpndjeccfdcjpaaManG
import Derived.Laws.AppendOwn
import Derived.Deep.RegionLaw
namespace Go.Proofs.Ytpndjeccfdcjpaa
open Go.RowKit

theorem drop_any {α : Type} {l : List α} {k : Nat} {y : α} (h : l[k]? = some y) : l.drop k = y :: l.drop (k + 1) := by
  obtain ⟨hk, rfl⟩ := List.getElem?_eq_some_iff.1 h
  exact List.drop_eq_getElem_cons hk
def set2 (W : World) (B : Nat) (n : ByteArray) (v : Value) : World := (W.setCell ⟨B, 0, none⟩ (.string n)).setCell ⟨B, 1, none⟩ v
section
variable {w W : World} {B : Nat} {cs : Array Value} {t : TypeId} {m : Nat × Nat}
theorem set2_row (h : W.heap[B]? = some (.cells cs t m)) (hc : cs.size = 2) (n : ByteArray) (v : Value) : (set2 W B n v).heap[B]? = some (.cells #[.string n, v] t m) := by
  have h0 := row_set (i := 0) (v := .string n) h
  have h1 := row_set (i := 1) (v := v) h0
  refine h1.trans ?_
  have : cs = #[cs[0]'(by omega), cs[1]'(by omega)] := by
    apply Array.ext
    · simpa using hc
    · intro i h1 h2
      have : i = 0 ∨ i = 1 := by omega
      rcases this with rfl | rfl <;> rfl
  rw [this]
  simp
theorem set2_below (h : Below w.heap.size w W) (n : ByteArray) (v : Value) : Below w.heap.size w (set2 W w.heap.size n v) :=
  (h.setCell (p := ⟨w.heap.size, 0, none⟩) (Nat.le_refl _) (.string n)).setCell (p := ⟨w.heap.size, 1, none⟩) (Nat.le_refl _) v
theorem set2_other {g : Nat} (hg : g ≠ B) (n : ByteArray) (v : Value) : (set2 W B n v).heap[g]? = W.heap[g]? := by
  have o : ∀ (V : World) (i : Nat) (v : Value), (V.setCell ⟨B, i, none⟩ v).heap[g]? = V.heap[g]? := fun V i v => Below.heap_setCell V ⟨B, i, none⟩ v g (by simpa using hg)
  unfold set2
  rw [o, o]
theorem set2_cell {x : Addr} (hx : x.block ≠ B) (n : ByteArray) (v : Value) : (set2 W B n v).cell? x = W.cell? x := by
  unfold World.cell?
  rw [set2_other hx]
/-- A result of two cells is written. -/
theorem fin2 (hz : W.heap[w.heap.size]? = some (.cells cs t (0, 0))) (hc : cs.size = 2) (hb : Below w.heap.size w W) (n : ByteArray) (v : Value) : (set2 W w.heap.size n v).heap[w.heap.size]? = some (.cells #[.string n, v] t (0, 0)) ∧ Below w.heap.size w (set2 W w.heap.size n v) :=
  ⟨set2_row hz hc n v, set2_below hb n v⟩
end

/-- append onto a row of the call's own, as one step of a region that draws. -/
theorem step_append_own {P : Program} (w : World) {ops : Array Oper} {o : Oper} {a : Act} {K : Act → World → Prop} {Q : Exit → Act → World → Prop} {E : Prop} (hgd : o.guard = none) (s x : Operand) (t : TypeId)
    (ho : o.op = .call { callee := .builtin .append, args := #[s, x], argTypes := #[t, t] })
    (base : Nat) (e : TypeId) (i : TypeInfo) (z : Value) (size bytes : Nat) (ht : P.underlying t = some (.slice e)) (hi : P.info? e = some i) (hz : i.zero = some z)
    (hsize : i.size = size) (hby : i.bytes = bytes) (hzs : z.cells.size = size) (hsz : 0 < size)
    (v : Value) (n : Nat) (xs : List Value) (hs : a.eval s = v) (hown : w.ownsRow base e size v n xs)
    (ad : Addr) (m c : Nat) (news : List Value) (hx : a.eval x = .slice (some ad) m c) (hl : news.length = m * size) (hnews : ∀ j u, news[j]? = some u → w.cell? (ad.add j) = some u) (h1 : ∀ u ∈ news, u.oneCell' = true)
    (h63 : n + m ≤ maxLen) (hbytes : (n + m) * bytes ≤ 140737488355328) (hbase : base ≤ w.heap.size)
    (h : ∀ v' w', w'.ownsRow base e size v' (n + m) (xs ++ news) → w.grownBy w' v.ownBlock → (v' = .slice none 0 0 ↔ v = .slice none 0 0 ∧ m = 0) → K (a.put o.dst v') w') :
    if Region.wanted o (yielded ops a.tmps) = true then Oper.wp P o a w K Q else E := by
  have hw : Region.wanted o (yielded ops a.tmps) = true := by simp [Region.wanted, hgd]
  rw [if_pos hw]
  exact wp_append_own w s x t ho base e i z size bytes ht hi hz hsize hby hzs hsz v n xs hs hown ad m c news hx hl hnews h1 h63 hbytes hbase h

/-- Numbers in a row of their own, in a block below lb. -/
def NatsRow (w : World) (lb : Nat) (A : Option Addr) (l : List Nat) : Prop := 0 < l.length → ∃ (g : Nat) (cur : Array Value), A = some ⟨g, 0, none⟩ ∧ g < lb ∧ w.heap[g]? = some (.cells cur 3 (0, 0)) ∧ cur.toList.take l.length = l.map (fun n => Value.int .i64 (n : Nat))
theorem NatsRow.nats {w : World} {lb : Nat} {A : Option Addr} {l : List Nat} (h : NatsRow w lb A l) : NatsAt w A l := fun hn => by
  obtain ⟨g, cur, rfl, _, h1, h2⟩ := h hn
  refine ⟨_, rfl, fun i n hi => ?_⟩
  have hadd : (⟨g, 0, none⟩ : Addr).add i = ⟨g, i, none⟩ := by unfold Addr.add; split <;> simp_all
  rw [hadd, cellH h1]
  have h3 : (cur.toList.take l.length)[i]? = some (Value.int .i64 (n : Nat)) := by rw [h2, List.getElem?_map, hi]; rfl
  rw [List.getElem?_take] at h3
  split at h3
  · simpa using h3
  · exact absurd h3 (by simp)
theorem NatsRow.frame {w w' : World} {lb lb' : Nat} {A : Option Addr} {l : List Nat} (h : NatsRow w lb A l) (hl : lb ≤ lb') (hf : ∀ (g : Nat) (cur : Array Value), g < lb → w.heap[g]? = some (.cells cur 3 (0, 0)) → w'.heap[g]? = w.heap[g]?) : NatsRow w' lb' A l := fun hn => by
  obtain ⟨g, cur, e, h0, h1, h2⟩ := h hn
  exact ⟨g, cur, e, Nat.lt_of_lt_of_le h0 hl, (hf g cur h0 h1).trans h1, h2⟩
theorem nats_own {W : World} {b n : Nat} {v : Value} {l : List Nat} (h : W.ownsRow b 3 1 v n (l.map (fun n => Value.int .i64 (n : Nat)))) : ∃ A c, v = .slice A l.length c ∧ NatsRow W W.heap.size A l ∧ l.length ≤ c := by
  have hl := h.1
  rw [List.length_map, Nat.mul_one] at hl
  rcases h.2 with ⟨rfl, e⟩ | ⟨g, cap, cur, rfl, _, hq, hcp, _, _, ht⟩
  · exact ⟨none, 0, by rw [hl, e], fun h0 => absurd h0 (by omega), by omega⟩
  · rw [hl]
    refine ⟨_, cap, rfl, fun _ => ⟨g, cur, rfl, (Array.getElem?_eq_some_iff.1 hq).1, hq, ?_⟩, hcp⟩
    rw [hl]
    simpa using ht

/-- A line's cells, its numbers among them. -/
def lnI (z : LnP × Value × Value) : List Value := [.string z.1.name, z.2.2, .int .i64 z.1.retry, .int .i64 z.1.time, .int .i64 z.1.need, .int .i64 z.1.lv, .int .u16 z.1.st, z.2.1]
section
variable {w W W' : World} {b P g lb : Nat} {nm : ByteArray} {ns : List ByteArray} {vn vt : Value} {zs : List (LnP × Value × Value)} {qs : List (TkP × Value)}
theorem row_keep {B q i : Nat} {v : Value} (hq : q ≠ B) : (W.setCell ⟨B, i, none⟩ v).heap[q]? = W.heap[q]? := Below.heap_setCell W ⟨B, i, none⟩ v q (by simpa using hq)
end
end Go.Proofs.Ytpndjeccfdcjpaa
