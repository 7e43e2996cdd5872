/-
  Pipelines whose After holds any numbers: their words, when they may be, how they stand in memory. No conditions.
-/
import Derived.Test.YtcddbpdebklhnaaGreatDoorManV
namespace Go.Proofs.YtcddbpdebklhnaaGreatDoor
open Go.RowKit

structure TkI where
  name : ByteArray
  after : List Int
  retry : Int
  time : Int
  need : Int
  lv : Int
  st : Int
def TkI.toP (t : TkI) : TkP := ⟨t.name, t.after.map Int.toNat, t.retry, t.time, t.need, t.lv, t.st⟩
/-- Few: what the laws ask first. -/
def FewI (n : ByteArray) (ts : List TkI) : Prop := (∀ t ∈ ts, t.after.length ≤ 20 ∧ t.name.size ≤ 100) ∧ ts.length ≤ 20 ∧ n.size ≤ 100
/-- After's numbers: each a task's place, none twice. -/
def AftI (n : Nat) (l : List Int) : Prop := ∀ (i : Nat) (v : Int), l[i]? = some v → 0 ≤ v ∧ v < n ∧ ∀ (j : Nat) (u : Int), j < i → l[j]? = some u → u ≠ v
structure TaskI (n : Nat) (t : TkI) : Prop where
  name : nameOk t.name
  time : 1 ≤ t.time ∧ t.time ≤ 100
  need : 0 ≤ t.need ∧ t.need ≤ 4
  retry : 0 ≤ t.retry ∧ t.retry ≤ 5
  lab : 0 ≤ t.lv ∧ t.lv ≤ 7
  plain : t.need = 0 → t.lv = 0 ∧ t.st = 0
  gate : 0 < t.need → t.retry = 0
  aft : AftI n t.after
structure RightI (n : ByteArray) (ts : List TkI) : Prop where
  name : nameOk n
  few : 1 ≤ ts.length ∧ ts.length ≤ 8
  task : ∀ (i : Nat) t, ts[i]? = some t → TaskI ts.length t ∧ ∀ (j : Nat) u, j < i → ts[j]? = some u → u.name ≠ t.name
theorem AftI.low {n : Nat} {l : List Int} (h : AftI n l) : ∀ j ∈ l.map Int.toNat, j < n := by
  intro j hj
  obtain ⟨v, hv, rfl⟩ := List.mem_map.1 hj
  obtain ⟨i, hi, rfl⟩ := List.getElem_of_mem hv
  have := h i _ (List.getElem?_eq_getElem hi)
  omega
theorem AftI.once {n : Nat} {l : List Int} (h : AftI n l) : (l.map Int.toNat).Nodup := by
  rw [List.nodup_iff_pairwise_ne, List.pairwise_iff_getElem]
  intro i j hi hj hij
  rw [List.length_map] at hi hj
  rw [List.getElem_map, List.getElem_map]
  have h1 := h j _ (List.getElem?_eq_getElem hj)
  have h2 := h i _ (List.getElem?_eq_getElem hi)
  have h3 := h1.2.2 i _ hij (List.getElem?_eq_getElem hi)
  omega
/-- It may be, in the words of the layer before. -/
theorem RightI.right {n : ByteArray} {ts : List TkI} (h : RightI n ts) (hs : ∀ t ∈ ts, 0 ≤ t.st ∧ t.st ≤ 65535) : RightPi ⟨n, ts.map TkI.toP⟩ := by
  refine ⟨h.name, ?_, ?_, ?_⟩
  · simpa using h.few
  · intro t ht
    obtain ⟨u, hu, rfl⟩ := List.mem_map.1 ht
    obtain ⟨i, hi, rfl⟩ := List.getElem_of_mem hu
    have h1 := (h.task i _ (List.getElem?_eq_getElem hi)).1
    have h2 := hs _ hu
    show TaskOk (ts.map TkI.toP).length _
    rw [List.length_map]
    exact ⟨h1.name, h1.time, h1.need, h1.retry, ⟨h1.lab.1, h1.lab.2, h2⟩, h1.plain, h1.gate, h1.aft.low, h1.aft.once⟩
  · rw [List.nodup_iff_pairwise_ne, List.pairwise_iff_getElem]
    intro i j hi hj hij
    simp only [List.length_map] at hi hj
    have h2 := (h.task j _ (List.getElem?_eq_getElem hj)).2 i _ hij (List.getElem?_eq_getElem hi)
    simpa [TkI.toP] using h2
/-- The numbers l stand at A. -/
def NumsAt (w : World) (A : Option Addr) (l : List Int) : Prop := 0 < l.length → ∃ ad, A = some ad ∧ ∀ (i : Nat) (n : Int), l[i]? = some n → w.cell? (ad.add i) = some (.int .i64 n)
theorem NumsAt.later {w w' : World} {A : Option Addr} {l : List Int} (h : NumsAt w A l) (hb : Below w.heap.size w w') : NumsAt w' A l := fun hn => by
  obtain ⟨ad, e, hc⟩ := h hn
  exact ⟨ad, e, fun i n hi => cell_later hb (hc i n hi)⟩
theorem NumsAt.at_ {w : World} {A : Option Addr} {l : List Int} (h : NumsAt w A l) {i : Nat} {n : Int} (hi : l[i]? = some n) : ∃ ad, A = some ad ∧ w.cell? (ad.add i) = some (.int .i64 n) := by
  obtain ⟨ad, e, hc⟩ := h (by have := (List.getElem?_eq_some_iff.1 hi).1; omega)
  exact ⟨ad, e, hc i n hi⟩
def tkiC (t : TkI) (tv : Value) : List Value := [.string t.name, tv, .int .i64 t.retry, .int .i64 t.time, .int .i64 t.need, .int .i64 t.lv, .int .u16 t.st]
abbrev tkiA (t : TkI) (B : Option Addr) (c : Nat) : Array Value := #[.string t.name, .slice B t.after.length c, .int .i64 t.retry, .int .i64 t.time, .int .i64 t.need, .int .i64 t.lv, .int .u16 t.st]
def TksI (w : World) (A : Option Addr) (ts : List TkI) : Prop := 0 < ts.length → ∃ ad, A = some ad ∧ ∀ (i : Nat) (t : TkI), ts[i]? = some t → ∃ B c, (∀ (j : Nat) (v : Value), (tkiC t (.slice B t.after.length c))[j]? = some v → w.cell? (ad.add (i * 7 + j)) = some v) ∧ NumsAt w B t.after ∧ t.after.length ≤ c
theorem TksI.later {w w' : World} {A : Option Addr} {ts : List TkI} (h : TksI w A ts) (hb : Below w.heap.size w w') : TksI w' A ts := fun hn => by
  obtain ⟨ad, e, hc⟩ := h hn
  refine ⟨ad, e, fun i t hi => ?_⟩
  obtain ⟨B, c, h1, h2, h3⟩ := hc i t hi
  exact ⟨B, c, fun j v hj => cell_later hb (h1 j v hj), h2.later hb, h3⟩
theorem TksI.at_ {w : World} {A : Option Addr} {ts : List TkI} (h : TksI w A ts) {i : Nat} {t : TkI} (hi : ts[i]? = some t) :
    ∃ ad B c, A = some ad ∧ w.cell? (ad.add (i * 7)) = some (.string t.name) ∧ (∀ (j : Nat) (v : Value), (tkiC t (.slice B t.after.length c))[j]? = some v → w.cell? ⟨(ad.add (i * 7)).block, (ad.add (i * 7)).off + j, none⟩ = some v) ∧ NumsAt w B t.after ∧ t.after.length ≤ c := by
  obtain ⟨ad, e, hc⟩ := h (by have := (List.getElem?_eq_some_iff.1 hi).1; omega)
  obtain ⟨B, c, h1, h2, h3⟩ := hc i t hi
  refine ⟨ad, B, c, e, h1 0 _ rfl, fun j v hj => ?_, h2, h3⟩
  exact cell_of (by rw [add_block, add_block]) (by simp only [add_off]; omega) rfl (h1 j v hj)
theorem NumsAt.nats {w : World} {A : Option Addr} {l : List Int} (h : NumsAt w A l) (h0 : ∀ v ∈ l, 0 ≤ v) : NatsAt w A (l.map Int.toNat) := fun hn => by
  rw [List.length_map] at hn
  obtain ⟨ad, e, hc⟩ := h hn
  refine ⟨ad, e, fun i n hi => ?_⟩
  rw [List.getElem?_map, Option.map_eq_some_iff] at hi
  obtain ⟨v, hv, rfl⟩ := hi
  rw [hc i v hv, Int.toNat_of_nonneg (h0 v (List.mem_of_getElem? hv))]
/-- One that may be stands as the layer before says. -/
theorem TksI.tks {w : World} {A : Option Addr} {ts : List TkI} (h : TksI w A ts) (h0 : ∀ t ∈ ts, ∀ v ∈ t.after, 0 ≤ v) : TksAt w A (ts.map TkI.toP) := fun hn => by
  rw [List.length_map] at hn
  obtain ⟨ad, e, hc⟩ := h hn
  refine ⟨ad, e, fun i t hi => ?_⟩
  rw [List.getElem?_map, Option.map_eq_some_iff] at hi
  obtain ⟨u, hu, rfl⟩ := hi
  obtain ⟨B, c, h1, h2, h3⟩ := hc i u hu
  refine ⟨B, c, fun j v hj => h1 j v ?_, h2.nats (h0 u (List.mem_of_getElem? hu)), ?_⟩
  · simpa [tkC, tkiC, TkI.toP] using hj
  · simpa [TkI.toP] using h3
end Go.Proofs.YtcddbpdebklhnaaGreatDoor
