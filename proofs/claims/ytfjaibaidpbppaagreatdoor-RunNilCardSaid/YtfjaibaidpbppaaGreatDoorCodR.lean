/-
  Plain words of such texts, on: the first comma; digits that are read one by one, and what they are worth. No program is named here. What the document's SameTexts and Lay (package lockageref04), and the laws' like, answer. No conditions but how the lists lie in memory. What the document's Read (package lockageref04) answers, given what its Print does. No conditions but a text's length. Plain words of such texts, on: what stands ahead of the first comma, byte by byte. No program is named here.
-/
import Derived.Test.YtfjaibaidpbppaaGreatDoorSecA
import Derived.BigRegion
import Derived.Test.YtfjaibaidpbppaaGreatDoorFirst
import Derived.Test.YtfjaibaidpbppaaGreatDoorPhaseB
import Derived.Deep.RegionLaw
namespace Go.Proofs.YtfjaibaidpbppaaGreatDoor

/-- How many bytes stand ahead of the first comma. -/
def firstC (l : List UInt8) : Nat := (l.takeWhile fun d => d != 44).length
theorem firstC_le (l : List UInt8) : firstC l ≤ l.length := by
  have h : (l.takeWhile (fun d => d != 44) ++ l.dropWhile (fun d => d != 44)).length = l.length := by rw [List.takeWhile_append_dropWhile]
  rw [List.length_append] at h
  unfold firstC
  omega
theorem firstC_num (n : Int) (x : List UInt8) : firstC (numT n ++ x) = (headT n).length := by
  have key : ∀ a : List UInt8, (∀ d ∈ a, d ≠ 44) → (a ++ 44 :: x).takeWhile (fun d => d != 44) = a := by
    intro a
    induction a with
    | nil => intro _; rfl
    | cons d a ih =>
      intro h
      have h1 : (d != 44) = true := by simpa using h d (List.mem_cons_self ..)
      rw [List.cons_append, List.takeWhile_cons, h1, if_pos rfl, ih (fun e he => h e (List.mem_cons_of_mem _ he))]
  unfold firstC
  rw [numT_head, List.append_assoc, List.singleton_append, key _ (headT_none n)]
theorem valD_le (p t : List UInt8) : valD p ≤ valD (p ++ t) := by
  unfold valD
  rw [List.foldl_append]
  have key : ∀ (t : List UInt8) (a : Nat), a ≤ t.foldl (fun a d => 10 * a + (d.toNat - 48)) a := by
    intro t
    induction t with
    | nil => intro a; exact Nat.le_refl _
    | cons d t ih => intro a; exact Nat.le_trans (by omega : a ≤ 10 * a + (d.toNat - 48)) (ih _)
  exact key t _
/-- One digit more is no more than the whole. -/
theorem valD_next (l : List UInt8) (i : Nat) (h : i < l.length) : 10 * valD (l.take i) + (l[i].toNat - 48) ≤ valD l := by
  have h1 := valD_le (l.take i ++ [l[i]]) (l.drop (i + 1))
  rw [valD_snoc] at h1
  rw [List.append_assoc, List.singleton_append, List.getElem_cons_drop, List.take_append_drop] at h1
  exact h1
theorem take_next (l : List UInt8) (i : Nat) (h : i < l.length) : valD (l.take (i + 1)) = 10 * valD (l.take i) + (l[i].toNat - 48) := by
  rw [List.take_add_one, List.getElem?_eq_getElem h]
  exact valD_snoc _ _
/-- A number's text, as bytes. -/
def numX (n : Int) : ByteArray := ofL (numT n)
theorem bl_numX (n : Int) : bl (numX n) = numT n := rfl
/-- What a number's digits are worth. -/
theorem headT_val (n : Int) : valD (if n < 0 then (headT n).drop 1 else headT n) = n.natAbs := by
  unfold headT
  split
  · simp [digN_val]
  · simp [digN_val]
end Go.Proofs.YtfjaibaidpbppaaGreatDoor

namespace Go.Proofs.YtfjaibaidpbppaaGreatDoor
open Go.RowKit

/-- The texts L stand at A. -/
def TextsAt (w : World) (A : Option Addr) (L : List ByteArray) : Prop := 0 < L.length → ∃ ad, A = some ad ∧ ∀ i s, L[i]? = some s → w.cell? (ad.add i) = some (.string s)

theorem ba_beq (s t : ByteArray) : (s.toList == t.toList) = decide (s = t) := by
  have e : ∀ x : ByteArray, x.toList = x.data.toList := fun x => Go.ByteArray.toList_eq x
  rw [Bool.eq_iff_iff]
  simp only [beq_iff_eq, decide_eq_true_eq, e]
  constructor
  · intro h
    exact ByteArray.ext (Array.toList_inj.1 h)
  · intro h
    rw [h]

end Go.Proofs.YtfjaibaidpbppaaGreatDoor

namespace Go.Proofs.YtfjaibaidpbppaaGreatDoor
open Go.RowKit

theorem valB_one (s : ByteArray) (hs : s.size = 64) : valB (s.extract 18 19) = (s[18]'(by omega)).toNat := by
  have h : bl (s.extract 18 19) = [s[18]'(by omega)] := by
    rw [show (19 : Nat) = 18 + 1 from rfl, bl_mid]
    unfold mid
    have hl : 18 < (bl s).length := by rw [bl_len]; omega
    rw [List.drop_eq_getElem_cons hl, List.take_succ_cons, List.take_zero]
    rfl
  rw [valB, h]
  simp [valL]
abbrev pcV (p : Pc) : Value := .agg #[.int .u64 p.stamp, .int .i64 p.gen, .int .i64 p.no, .int .i64 p.idx, .int .i64 p.tot, .string p.data]

theorem cellH {w : World} {g : Nat} {cs : Array Value} {t : TypeId} {m : Nat × Nat} (h : w.heap[g]? = some (.cells cs t m)) (i : Nat) : w.cell? ⟨g, i, none⟩ = cs[i]? := by simp [World.cell?, h]
theorem freeH {w : World} {g : Nat} {cs : Array Value} {t : TypeId} (h : w.heap[g]? = some (.cells cs t (0, 0))) : ∀ i, w.frozen? ⟨g, i, none⟩ = false := fun i => by simp [World.frozen?, h]
theorem readP_size {s : ByteArray} (h : s.size ≠ 64) : readP s = none := by unfold readP; rw [if_neg (fun k => h k.1)]
theorem readP_long {s : ByteArray} (h : 37 < valB (s.extract 18 19)) : readP s = none := by unfold readP; rw [if_neg (fun k => by omega)]

end Go.Proofs.YtfjaibaidpbppaaGreatDoor

namespace Go.Proofs.YtfjaibaidpbppaaGreatDoor

/-- A text's byte. -/
def byI (s : ByteArray) (i : Nat) : Int := (((bl s).getD i 0).toNat : Int)
theorem byI_at (s : ByteArray) (i : Nat) (h : i < s.size) : ((s[i]'h).toNat : Int) = byI s i := by
  have h2 : i < (bl s).length := by rw [bl_len]; exact h
  unfold byI
  rw [List.getD_eq_getElem?_getD, List.getElem?_eq_getElem h2, Option.getD_some]
  rfl
theorem byI_range (s : ByteArray) (i : Nat) : 0 ≤ byI s i ∧ byI s i ≤ 255 := by
  unfold byI
  have := ((bl s).getD i 0).toNat_lt
  omega
theorem byI_get {s : ByteArray} {i : Nat} (h : i < s.size) : ∃ c : UInt8, (bl s)[i]? = some c ∧ byI s i = (c.toNat : Int) := by
  have h2 : i < (bl s).length := by rw [bl_len]; exact h
  refine ⟨(bl s)[i], List.getElem?_eq_getElem h2, ?_⟩
  unfold byI
  rw [List.getD_eq_getElem?_getD, List.getElem?_eq_getElem h2, Option.getD_some]
theorem byte_is {c : UInt8} {k : Nat} (h : c.toNat = k) (hk : k < 256) : c = UInt8.ofNat k := by
  apply UInt8.toNat_inj.1
  rw [h, UInt8.toNat_ofNat']
  omega
section
variable {L : List UInt8} {k : Nat} {m : Int} {rest : List UInt8}
theorem split_at_comma (hk : L[k]? = some 44) : L = L.take k ++ 44 :: L.drop (k + 1) := by
  have hlt : k < L.length := (List.getElem?_eq_some_iff.1 hk).1
  have h1 : L[k] = 44 := (List.getElem?_eq_some_iff.1 hk).2
  rw [← h1, List.getElem_cons_drop, List.take_append_drop]
theorem num_at (hk : L[k]? = some 44) (hb : ∀ j, j < k → L[j]? ≠ some 44) (h : L = numT m ++ rest) : L.take k = headT m ∧ rest = L.drop (k + 1) := by
  have h1 := split_at_comma hk
  have h2 : ∀ d ∈ L.take k, d ≠ 44 := by
    intro d hd e
    subst e
    obtain ⟨j, hj, e⟩ := List.mem_iff_getElem.1 hd
    rw [List.length_take] at hj
    refine hb j (by omega) ?_
    rw [List.getElem?_eq_getElem (by omega)]
    rw [List.getElem_take] at e
    rw [e]
  have h3 : L.take k ++ 44 :: L.drop (k + 1) = headT m ++ 44 :: rest := by
    rw [← h1, h, numT_head, List.append_assoc, List.singleton_append]
  obtain ⟨h4, h5⟩ := split_first h2 (headT_none m) h3
  exact ⟨h4, h5.symm⟩
theorem num_back (hk : L[k]? = some 44) (h : L.take k ++ [44] = numT m) : L = numT m ++ L.drop (k + 1) := by
  have h1 := split_at_comma hk
  rw [← h, List.append_assoc, List.singleton_append]
  exact h1
theorem head_neg (m : Int) : (headT m)[0]? = some 45 ↔ m < 0 := by
  unfold headT
  split
  · rename_i h
    simp [h]
  · rename_i h
    rw [List.nil_append]
    refine ⟨fun e => ?_, fun e => absurd e h⟩
    have := digN_digit m.natAbs 45 (List.mem_of_getElem? e)
    exact absurd this (by decide)
theorem head_digit {i : Nat} {c : UInt8} (hi : (headT m)[i]? = some c) (h : m < 0 → 0 < i) : 48 ≤ c.toNat ∧ c.toNat ≤ 57 := by
  unfold headT at hi
  split at hi
  · rename_i hm
    have h0 := h hm
    obtain ⟨j, rfl⟩ : ∃ j, i = j + 1 := ⟨i - 1, by omega⟩
    rw [List.cons_append, List.getElem?_cons_succ, List.nil_append] at hi
    exact digN_digit _ _ (List.mem_of_getElem? hi)
  · rw [List.nil_append] at hi
    exact digN_digit _ _ (List.mem_of_getElem? hi)
theorem head_drop (m : Int) : valD ((headT m).drop (if m < 0 then 1 else 0)) = m.natAbs := by
  have := headT_val m
  split
  · rename_i h; rw [if_pos h] at this; exact this
  · rename_i h; rw [if_neg h] at this; rw [List.drop_zero]; exact this
/-- The digits from b on, up to i. -/
def upTo (T : List UInt8) (b i : Nat) : Nat := valD ((T.drop b).take (i - b))
theorem upTo_start (T : List UInt8) (b : Nat) : upTo T b b = 0 := by
  unfold upTo
  rw [Nat.sub_self, List.take_zero]
  rfl
theorem upTo_next {T : List UInt8} {b i : Nat} {c : UInt8} (hb : b ≤ i) (hc : T[i]? = some c) : upTo T b (i + 1) = 10 * upTo T b i + (c.toNat - 48) := by
  have h1 : (T.drop b)[i - b]? = some c := by rw [List.getElem?_drop, show b + (i - b) = i by omega]; exact hc
  obtain ⟨h2, h3⟩ := List.getElem?_eq_some_iff.1 h1
  unfold upTo
  rw [show i + 1 - b = i - b + 1 by omega, take_next _ _ h2, h3]
theorem upTo_le {T : List UInt8} {b i : Nat} {c : UInt8} (hb : b ≤ i) (hc : T[i]? = some c) : 10 * upTo T b i + (c.toNat - 48) ≤ valD (T.drop b) := by
  have h1 : (T.drop b)[i - b]? = some c := by rw [List.getElem?_drop, show b + (i - b) = i by omega]; exact hc
  obtain ⟨h2, h3⟩ := List.getElem?_eq_some_iff.1 h1
  have := valD_next _ _ h2
  rw [h3] at this
  exact this
theorem upTo_all (T : List UInt8) (b : Nat) : upTo T b T.length = valD (T.drop b) := by
  unfold upTo
  rw [← List.length_drop, List.take_length]
end
end Go.Proofs.YtfjaibaidpbppaaGreatDoor
