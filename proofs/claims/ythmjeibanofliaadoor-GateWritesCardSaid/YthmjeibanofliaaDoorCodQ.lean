/-
  Plain words of such texts, on: the first comma; digits that are read one by one, and what they are worth. No program is named here.
-/
import Derived.Test.YthmjeibanofliaaDoorCodP
namespace Go.Proofs.YthmjeibanofliaaDoor

/-- How many bytes stand ahead of the first comma. -/
def firstC (l : List UInt8) : Nat := (l.takeWhile fun d => d != 44).length
theorem firstC_le (l : List UInt8) : firstC l ≤ l.length := by
  have h : (l.takeWhile (fun d => d != 44) ++ l.dropWhile (fun d => d != 44)).length = l.length := by rw [List.takeWhile_append_dropWhile]
  rw [List.length_append] at h
  unfold firstC
  omega
theorem firstC_num (n : Int) (x : List UInt8) : firstC (numT n ++ x) = (headT n).length := by
  have key : ∀ a : List UInt8, (∀ d ∈ a, d ≠ 44) → (a ++ 44 :: x).takeWhile (fun d => d != 44) = a := by
    intro a
    induction a with
    | nil => intro _; rfl
    | cons d a ih =>
      intro h
      have h1 : (d != 44) = true := by simpa using h d (List.mem_cons_self ..)
      rw [List.cons_append, List.takeWhile_cons, h1, if_pos rfl, ih (fun e he => h e (List.mem_cons_of_mem _ he))]
  unfold firstC
  rw [numT_head, List.append_assoc, List.singleton_append, key _ (headT_none n)]
theorem valD_le (p t : List UInt8) : valD p ≤ valD (p ++ t) := by
  unfold valD
  rw [List.foldl_append]
  have key : ∀ (t : List UInt8) (a : Nat), a ≤ t.foldl (fun a d => 10 * a + (d.toNat - 48)) a := by
    intro t
    induction t with
    | nil => intro a; exact Nat.le_refl _
    | cons d t ih => intro a; exact Nat.le_trans (by omega : a ≤ 10 * a + (d.toNat - 48)) (ih _)
  exact key t _
/-- One digit more is no more than the whole. -/
theorem valD_next (l : List UInt8) (i : Nat) (h : i < l.length) : 10 * valD (l.take i) + (l[i].toNat - 48) ≤ valD l := by
  have h1 := valD_le (l.take i ++ [l[i]]) (l.drop (i + 1))
  rw [valD_snoc] at h1
  rw [List.append_assoc, List.singleton_append, List.getElem_cons_drop, List.take_append_drop] at h1
  exact h1
theorem take_next (l : List UInt8) (i : Nat) (h : i < l.length) : valD (l.take (i + 1)) = 10 * valD (l.take i) + (l[i].toNat - 48) := by
  rw [List.take_add_one, List.getElem?_eq_getElem h]
  exact valD_snoc _ _
/-- A number's text, as bytes. -/
def numX (n : Int) : ByteArray := ofL (numT n)
theorem bl_numX (n : Int) : bl (numX n) = numT n := rfl
/-- What a number's digits are worth. -/
theorem headT_val (n : Int) : valD (if n < 0 then (headT n).drop 1 else headT n) = n.natAbs := by
  unfold headT
  split
  · simp [digN_val]
  · simp [digN_val]
end Go.Proofs.YthmjeibanofliaaDoor
