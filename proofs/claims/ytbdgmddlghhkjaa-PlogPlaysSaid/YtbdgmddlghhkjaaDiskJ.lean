/-
  The program's disk (package disk) in memory: its own block, its sectors (65 cells each), its cache (65 cells a write). No conditions but how it lies.
-/
import Derived.Test.YtbdgmddlghhkjaaDiskG
import Derived.Laws.CopyOwn
import Derived.Laws.MakeOwn
namespace Go.Proofs.Ytbdgmddlghhkjaa
open Go.RowKit

section
variable {α : Type}
theorem flat_split (f : α → List Value) (m : Nat) (l : List α) (hl : ∀ x ∈ l, (f x).length = m) {i : Nat} {x : α} (h : l[i]? = some x) :
    l.flatMap f = (l.take i).flatMap f ++ (f x ++ (l.drop (i + 1)).flatMap f) ∧ ((l.take i).flatMap f).length = i * m := by
  have hi : i < l.length := (List.getElem?_eq_some_iff.1 h).1
  have hx : l[i] = x := (List.getElem?_eq_some_iff.1 h).2
  constructor
  · conv => lhs; rw [← List.take_append_drop i l, List.drop_eq_getElem_cons hi, hx]
    simp
  · clear hx h
    have key : ∀ (l : List α), (∀ x ∈ l, (f x).length = m) → (l.flatMap f).length = l.length * m := by
      intro l
      induction l with
      | nil => intro _; simp
      | cons y l ih =>
        intro hl
        rw [List.flatMap_cons, List.length_append, ih (fun x hx => hl x (List.mem_cons_of_mem _ hx)), hl y List.mem_cons_self, List.length_cons, Nat.add_mul]
        omega
    rw [key _ (fun x hx => hl x (List.mem_of_mem_take hx)), List.length_take]
    congr 1
    omega
theorem flat_len (f : α → List Value) (m : Nat) : ∀ (l : List α), (∀ x ∈ l, (f x).length = m) → (l.flatMap f).length = l.length * m
  | [], _ => by simp
  | y :: l, hl => by
    rw [List.flatMap_cons, List.length_append, flat_len f m l (fun x hx => hl x (List.mem_cons_of_mem _ hx)), hl y List.mem_cons_self, List.length_cons, Nat.add_mul]
    omega
theorem flat_at (f : α → List Value) (m : Nat) (l : List α) (hl : ∀ x ∈ l, (f x).length = m) {i : Nat} {x : α} (h : l[i]? = some x) {j : Nat} (hj : j < m) : (l.flatMap f)[i * m + j]? = (f x)[j]? := by
  obtain ⟨e, hn⟩ := flat_split f m l hl h
  have hm : (f x).length = m := hl x (List.mem_of_getElem? h)
  rw [e, List.getElem?_append_right (by omega), List.getElem?_append_left (by omega)]
  congr 1
  omega
theorem flat_set (f : α → List Value) (m : Nat) (l : List α) (hl : ∀ x ∈ l, (f x).length = m) {i : Nat} {x : α} (h : l[i]? = some x) (y : α) {j : Nat} (hj : j < m) {v : Value} (hy : f y = (f x).set j v) : (l.flatMap f).set (i * m + j) v = (l.set i y).flatMap f := by
  obtain ⟨e, hn⟩ := flat_split f m l hl h
  have hi : i < l.length := (List.getElem?_eq_some_iff.1 h).1
  have hm : (f x).length = m := hl x (List.mem_of_getElem? h)
  have e2 : (l.set i y).flatMap f = (l.take i).flatMap f ++ (f y ++ (l.drop (i + 1)).flatMap f) := by
    rw [List.set_eq_take_append_cons_drop, if_pos hi]
    simp
  rw [e, e2, List.set_append_right _ _ (by omega), List.set_append_left _ _ (by omega), hy]
  congr 4
  omega
theorem flat_splice (f : α → List Value) (m : Nat) (l : List α) (hl : ∀ x ∈ l, (f x).length = m) {i : Nat} {x : α} (h : l[i]? = some x) (y : α) {j : Nat} {cs : List Value} (hj : j + cs.length ≤ m) (hy : f y = splice (f x) j cs) : splice (l.flatMap f) (i * m + j) cs = (l.set i y).flatMap f := by
  obtain ⟨e, hn⟩ := flat_split f m l hl h
  have hi : i < l.length := (List.getElem?_eq_some_iff.1 h).1
  have hm : (f x).length = m := hl x (List.mem_of_getElem? h)
  have e2 : (l.set i y).flatMap f = (l.take i).flatMap f ++ (f y ++ (l.drop (i + 1)).flatMap f) := by
    rw [List.set_eq_take_append_cons_drop, if_pos hi]
    simp
  rw [e, e2, hy]
  unfold splice
  rw [List.take_append, List.take_of_length_le (by omega), hn, List.take_append_of_le_length (by omega), List.drop_append, List.drop_eq_nil_of_le (by omega), hn, List.drop_append_of_le_length (by omega)]
  rw [show i * m + j - i * m = j by omega, show i * m + j + cs.length - i * m = j + cs.length by omega]
  simp [List.append_assoc]
end

/-- A sector's cells, and a write's. -/
def secC (x : ByteArray × Int) : List Value := bytesV x.1 ++ [.int .i64 x.2]
def wriC (x : Int × ByteArray) : List Value := .int .i64 x.1 :: bytesV x.2
theorem secC_len {x : ByteArray × Int} (h : x.1.size = 64) : (secC x).length = 65 := by simp [secC, bytesV_len, h]
theorem wriC_len {x : Int × ByteArray} (h : x.2.size = 64) : (wriC x).length = 65 := by simp [wriC, bytesV_len, h]

/-- The types of the program's disk. -/
def progT (t : TypeId) : Bool := t == 65 || t == 98 || t == 101

/-- Which write of the cache is the last one of sector i, counted from 1 on. -/
def LastOk (i : Int) (c : List (Int × ByteArray)) (l : Int) : Prop :=
  (l = 0 ∧ ∀ s, readL i s c = s) ∨ ∃ (k : Nat) (x : Int × ByteArray), l = k + 1 ∧ c[k]? = some x ∧ x.1 = i ∧ ∀ s, readL i s c = x.2
theorem LastOk.range {i : Int} {c : List (Int × ByteArray)} {l : Int} (h : LastOk i c l) : 0 ≤ l ∧ l ≤ c.length := by
  rcases h with ⟨rfl, _⟩ | ⟨k, x, rfl, hk, _⟩
  · omega
  · have := (List.getElem?_eq_some_iff.1 hk).1
    omega
theorem LastOk.new (i : Int) (c : List (Int × ByteArray)) (s : ByteArray) : LastOk i (c ++ [(i, s)]) (c.length + 1) :=
  .inr ⟨c.length, (i, s), rfl, by simp, rfl, fun t => by rw [readL_snoc, if_pos rfl]⟩
theorem LastOk.snoc {i : Int} {c : List (Int × ByteArray)} {l : Int} (h : LastOk i c l) {x : Int × ByteArray} (hx : x.1 ≠ i) : LastOk i (c ++ [x]) l := by
  rcases h with ⟨rfl, h⟩ | ⟨k, y, rfl, hk, hy, h⟩
  · exact .inl ⟨rfl, fun s => by rw [readL_snoc, if_neg hx, h s]⟩
  · exact .inr ⟨k, y, rfl, by rw [List.getElem?_append_left (List.getElem?_eq_some_iff.1 hk).1, hk], hy, fun s => by rw [readL_snoc, if_neg hx, h s]⟩

/-- The disk's own block, its sectors, its cache. -/
def DskB (w : World) (base D S : Nat) (cs : Array Value) (cv : Value) (secs : List (ByteArray × Int)) (cache : List (Int × ByteArray)) : Prop :=
  w.heap[D]? = some (.cells cs 65 (0, 0)) ∧ w.heap[S]? = some (.cells (secs.flatMap secC).toArray 98 (0, 0)) ∧ w.ownsRow base 101 65 cv cache.length (cache.flatMap wriC) ∧ base ≤ D ∧ base ≤ S

/-- What always holds of its sectors. -/
structure SecOk (secs : List (ByteArray × Int)) (st : Dk) : Prop where
  kept : secs.map (·.1) = st.kept
  last : ∀ (i : Nat) (x : ByteArray × Int), secs[i]? = some x → LastOk i st.cache x.2
  ok : st.Ok

/-- The program's disk lies in block D. -/
def DiskAt (w : World) (base D : Nat) (st : Dk) : Prop :=
  ∃ S cv secs b, DskB w base D S #[.slice (some ⟨S, 0, none⟩) secs.length secs.length, cv, .int .i64 st.writes, .int .i64 st.armed, .int .u64 b, .bool st.off] cv secs st.cache ∧
    SecOk secs st ∧ (0 < st.armed → b = st.bits) ∧ 0 ≤ b ∧ b < 18446744073709551616

section
variable {w w' : World} {base D S : Nat} {cs : Array Value} {cv : Value} {secs : List (ByteArray × Int)} {cache : List (Int × ByteArray)} {st : Dk}
theorem SecOk.size (h : SecOk secs st) : ∀ x ∈ secs, x.1.size = 64 := fun x hx => h.ok.size _ (by rw [← h.kept]; exact List.mem_map_of_mem hx)
theorem SecOk.len (h : SecOk secs st) : secs.length = st.kept.length := by rw [← h.kept, List.length_map]
theorem DskB.cell (h : DskB w base D S cs cv secs cache) (i : Nat) : w.cell? ⟨D, i, none⟩ = cs[i]? := by simp [World.cell?, h.1]
theorem DskB.free (h : DskB w base D S cs cv secs cache) (i : Nat) : w.frozen? ⟨D, i, none⟩ = false := by simp [World.frozen?, h.1]
theorem DskB.later (h : DskB w base D S cs cv secs cache) (hb : Below w.heap.size w w') : DskB w' base D S cs cv secs cache := by
  have hk : ∀ {e : TypeId} {size n : Nat} {v : Value} {xs : List Value}, w.ownsRow base e size v n xs → w'.ownsRow base e size v n xs := fun h =>
    h.kept (row := none) ⟨hb.os, hb.tape, hb.output, hb.size, fun i hi _ => hb.block i hi⟩ (by cases Value.ownBlock _ <;> simp)
  exact ⟨by rw [hb.block D (Array.getElem?_eq_some_iff.1 h.1).1]; exact h.1, by rw [hb.block S (Array.getElem?_eq_some_iff.1 h.2.1).1]; exact h.2.1, hk h.2.2.1, h.2.2.2⟩
theorem DskB.ne (h : DskB w base D S cs cv secs cache) : S ≠ D := fun e => by
  have h1 := h.1
  have h2 := h.2.1
  rw [e, h1] at h2
  injection h2 with h2
  injection h2 with _ ht
  exact absurd ht (by decide)
theorem DskB.set (h : DskB w base D S cs cv secs cache) (i : Nat) (v : Value) : DskB (w.setCell ⟨D, i, none⟩ v) base D S (cs.setIfInBounds i v) cv secs cache :=
  ⟨heap_set h.1, (Below.heap_setCell w ⟨D, i, none⟩ v S h.ne).trans h.2.1, own_set h.2.2.1 h.1 (by decide), h.2.2.2⟩
theorem DskB.lens (h : DskB w base D S cs cv secs cache) : ∃ B d, cv = .slice B cache.length d := by
  rcases h.2.2.1.2 with ⟨rfl, e⟩ | ⟨g, cap, cur, rfl, _⟩
  · exact ⟨_, _, by rw [e]⟩
  · exact ⟨_, _, rfl⟩
theorem DskB.sec_at (h : DskB w base D S cs cv secs cache) (hs : ∀ x ∈ secs, x.1.size = 64) {i : Nat} {x : ByteArray × Int} (hx : secs[i]? = some x) {j : Nat} (hj : j < 65) : w.cell? ⟨S, i * 65 + j, none⟩ = (secC x)[j]? ∧ w.frozen? ⟨S, i * 65 + j, none⟩ = false := by
  refine ⟨?_, by simp [World.frozen?, h.2.1]⟩
  have := flat_at secC 65 secs (fun x hx => secC_len (hs x hx)) hx hj
  simp [World.cell?, h.2.1, this]
theorem DskB.write_at (h : DskB w base D S cs cv secs cache) (hs : ∀ x ∈ cache, x.2.size = 64) {i : Nat} {x : Int × ByteArray} (hx : cache[i]? = some x) :
    ∃ g cap, cv = .slice (some ⟨g, 0, none⟩) cache.length cap ∧ ∀ j, j < 65 → w.cell? ⟨g, i * 65 + j, none⟩ = (wriC x)[j]? := by
  have hi : i < cache.length := (List.getElem?_eq_some_iff.1 hx).1
  have ho := h.2.2.1
  rcases ho.2 with ⟨_, e⟩ | ⟨g, cap, cur, rfl, _, _, _⟩
  · omega
  · exact ⟨g, cap, rfl, fun j hj => by rw [ho.cellAt _ (by omega), flat_at wriC 65 cache (fun x hx => wriC_len (hs x hx)) hx hj]⟩
/-- A sector's cell is stored into. -/
theorem DskB.putLast (h : DskB w base D S cs cv secs cache) (hs : ∀ x ∈ secs, x.1.size = 64) {i : Nat} {x : ByteArray × Int} (hx : secs[i]? = some x) (l : Int) : DskB (w.setCell ⟨S, i * 65 + 64, none⟩ (.int .i64 l)) base D S cs cv (secs.set i (x.1, l)) cache := by
  refine ⟨(Below.heap_setCell w ⟨S, i * 65 + 64, none⟩ _ D h.ne.symm).trans h.1, ?_, own_set h.2.2.1 h.2.1 (by decide), h.2.2.2⟩
  rw [heap_set h.2.1]
  have e := flat_set secC 65 secs (fun x hx => secC_len (hs x hx)) hx (x.1, l) (j := 64) (by omega) (v := .int .i64 l) (by
    have hz := bytesV_len x.1
    rw [hs x (List.mem_of_getElem? hx)] at hz
    simp [secC, List.set_append_right, hz])
  rw [← e]
  simp
theorem DskB.row (h : DskB w base D S cs cv secs cache) {secs' : List (ByteArray × Int)} {cur : Array Value} (hc : cur = (secs'.flatMap secC).toArray) : DskB (w.setRow S cur) base D S cs cv secs' cache := by
  refine ⟨(setRow_other w S D cur h.ne.symm).trans h.1, by rw [hc]; exact setRow_heap w S _ _ _ _ h.2.1, ?_, h.2.2.2⟩
  obtain ⟨hl, ho⟩ := h.2.2.1
  refine ⟨hl, ho.imp id ?_⟩
  rintro ⟨q, cap, cu, rfl, hb, hq, h1⟩
  refine ⟨q, cap, cu, rfl, hb, ?_, h1⟩
  have : q ≠ S := fun e' => by subst e'; rw [h.2.1] at hq; injection hq with hq; injection hq with _ ht; exact absurd ht (by decide)
  exact (setRow_other w S q cur this).trans hq
theorem OnlyT.setRow {T : TypeId → Bool} {a : World} {g : Nat} {cur cs : Array Value} {t : TypeId} {m : Nat × Nat} (h : OnlyT base T w a) (hg : a.heap[g]? = some (.cells cs t m)) (hT : T t = true) (hb : base ≤ g) : OnlyT base T w (a.setRow g cur) :=
  h.trans ⟨rfl, rfl, rfl, by simp [World.setRow], fun j o ho hc => by
    by_cases e : j = g
    · subst e
      rw [hg] at ho
      injection ho with ho
      rcases hc with hc | hc
      · omega
      · rw [hc cs t m ho.symm] at hT; cases hT
    · exact (setRow_other a g j cur e).trans ho⟩

theorem diskAt_mono {base' : Nat} (h : DiskAt w base D st) (hb' : base' ≤ base) : DiskAt w base' D st := by
  obtain ⟨S, cv, secs, b, h, hs, hb⟩ := h
  have hm : ∀ {e : TypeId} {size n : Nat} {v : Value} {xs : List Value}, w.ownsRow base e size v n xs → w.ownsRow base' e size v n xs := fun ⟨hl, h⟩ =>
    ⟨hl, h.imp id fun ⟨q, cap, cur, h1, h2, h3⟩ => ⟨q, cap, cur, h1, by omega, h3⟩⟩
  exact ⟨S, cv, secs, b, ⟨h.1, h.2.1, hm h.2.2.1, by have := h.2.2.2.1; omega, by have := h.2.2.2.2; omega⟩, hs, hb⟩
theorem DskB.frame {T : TypeId → Bool} (h : DskB w base D S cs cv secs cache) (ho : OnlyT base T w w') (hT : T 65 = false ∧ T 98 = false ∧ T 101 = false) : DskB w' base D S cs cv secs cache := by
  refine ⟨ho.block D _ h.1 (.inr fun cs t m e => ?_), ho.block S _ h.2.1 (.inr fun cs t m e => ?_), own_frame h.2.2.1 ho hT.2.2, h.2.2.2⟩
  · injection e with _ e
    rw [← e]; exact hT.1
  · injection e with _ e
    rw [← e]; exact hT.2.1
theorem diskAt_ok (h : DiskAt w base D st) : st.Ok := by
  obtain ⟨S, cv, secs, b, h, hs, hb⟩ := h
  exact hs.ok
end
end Go.Proofs.Ytbdgmddlghhkjaa
