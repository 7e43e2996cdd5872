/-
  Votes as numbers, in plain words; what the law asks of the program's Write and Read. Conditions: what the library's variables hold.
-/
import Derived.Test.YthmjeibanofliaaDoorGtB
import Derived.Test.YthmjeibanofliaaDoorCodBa
import Derived.Test.YthmjeibanofliaaDoorLsO
namespace Go.Proofs.YthmjeibanofliaaDoor
open Go.RowKit

theorem RisL.snoc {m : List Int} {x : Int} (h : RisL m) (h0 : 0 ≤ x) (h1 : x < 12) (hl : ∀ y, m.getLast? = some y → y < x) : RisL (m ++ [x]) := by
  refine ⟨List.pairwise_append.2 ⟨h.1, by simp, fun a ha b hb => ?_⟩, fun z hz => ?_⟩
  · obtain rfl : b = x := by simpa using hb
    rcases List.eq_nil_or_concat m with rfl | ⟨i, y, rfl⟩
    · cases ha
    · have hy := hl y (by simp)
      rw [List.concat_eq_append] at ha h
      rcases List.mem_append.1 ha with h2 | h2
      · have := (List.pairwise_append.1 h.1).2.2 a h2 y (by simp)
        omega
      · obtain rfl : a = y := by simpa using h2
        exact hy
  · rcases List.mem_append.1 hz with h2 | h2
    · exact h.2 z h2
    · obtain rfl : z = x := by simpa using h2
      exact ⟨h0, h1⟩
theorem RisL.take {l : List Int} {k : Nat} {x : Int} (h : RisL (l.take k)) (hx : l[k]? = some x) (h0 : 0 ≤ x) (h1 : x < 12) (hl : ∀ j y, k = j + 1 → l[j]? = some y → y < x) : RisL (l.take (k + 1)) := by
  rw [List.take_add_one, hx]
  refine h.snoc h0 h1 fun y hy => ?_
  cases k with
  | zero => simp at hy
  | succ j =>
    have hlt := (List.getElem?_eq_some_iff.1 hx).1
    rw [List.getLast?_eq_getElem?, List.length_take, Nat.min_eq_left (by omega), Nat.add_sub_cancel, List.getElem?_take_of_lt (by omega)] at hy
    exact hl j y rfl hy
theorem rightV_no {l : List Int} (h : ¬ RisL l) : rightV l = false := by
  cases hr : rightV l with
  | false => rfl
  | true => exact absurd (rightV_iff.1 hr) h
theorem notRis {l : List Int} {j : Nat} {x y : Int} (hx : l[j]? = some x) (hy : l[j + 1]? = some y) (h : ¬ x < y) : ¬ RisL l := by
  intro hr
  obtain ⟨hj, e1⟩ := List.getElem?_eq_some_iff.1 hx
  obtain ⟨hj2, e2⟩ := List.getElem?_eq_some_iff.1 hy
  have := List.pairwise_iff_getElem.1 hr.1 j (j + 1) hj hj2 (Nat.lt_succ_self _)
  rw [e1, e2] at this
  exact h this
/-- The numbers of votes as they are written. -/
def votL (yes : List Int) (no : Bool) : List Int := (yes.length : Int) :: (yes ++ [if no then 1 else 0])
def votX (yes : List Int) (no : Bool) : ByteArray := intsX .empty (votL yes no)
theorem intsX_bl : ∀ (l : List Int) (t : ByteArray), bl (intsX t l) = bl t ++ l.flatMap numT
  | [], t => (List.append_nil _).symm
  | n :: l, t => by
    show bl (intsX (t ++ numX n) l) = _
    rw [intsX_bl l, bl_append, bl_numX, List.append_assoc, List.flatMap_cons]
theorem flat_front : ∀ {a b : List Int} {X Y : List UInt8}, a.length = b.length → a.flatMap numT ++ X = b.flatMap numT ++ Y → a = b ∧ X = Y
  | [], [], _, _, _, h => ⟨rfl, h⟩
  | [], _ :: _, _, _, h, _ => by cases h
  | _ :: _, [], _, _, h, _ => by cases h
  | x :: a, y :: b, X, Y, h, h2 => by
    rw [List.flatMap_cons, List.flatMap_cons, List.append_assoc, List.append_assoc] at h2
    obtain ⟨rfl, h3⟩ := numT_front h2
    obtain ⟨rfl, h4⟩ := flat_front (Nat.succ.inj h) h3
    exact ⟨rfl, h4⟩
theorem votX_front {y z : List Int} {n m : Bool} {T U : ByteArray} (h : votX y n ++ T = votX z m ++ U) : y = z ∧ n = m ∧ T = U := by
  have h1 := congrArg bl h
  unfold votX votL at h1
  rw [bl_append, bl_append, intsX_bl, intsX_bl, List.append_assoc, List.append_assoc, List.flatMap_cons, List.flatMap_cons, List.append_assoc, List.append_assoc] at h1
  obtain ⟨e0, h2⟩ := numT_front (List.append_cancel_left h1)
  have e0 : y.length = z.length := by omega
  obtain ⟨e1, h3⟩ := flat_front (by simp [e0]) h2
  obtain ⟨e2, e3⟩ := List.append_inj e1 e0
  refine ⟨e2, ?_, bl_inj h3⟩
  cases n <;> cases m <;> simp_all
theorem votX_self {y z : List Int} {n m : Bool} {T : ByteArray} (h : votX y n = votX z m ++ T) : y = z ∧ n = m ∧ T = .empty := by
  have h1 : votX y n ++ ByteArray.empty = votX z m ++ T := by rw [← h]; apply bl_inj; rw [bl_append]; exact List.append_nil _
  obtain ⟨e1, e2, e3⟩ := votX_front h1
  exact ⟨e1, e2, e3.symm⟩
theorem intsX_size : ∀ (l : List Int) (t : ByteArray), (∀ z ∈ l, -9223372036854775808 ≤ z ∧ z ≤ 9223372036854775807) → (intsX t l).size ≤ t.size + 21 * l.length
  | [], _, _ => Nat.le_refl _
  | n :: l, t, h => by
    have h1 := intsX_size l (t ++ numX n) (fun z hz => h z (List.mem_cons_of_mem _ hz))
    have h2 := numX_len (h n (List.mem_cons_self ..)).1 (h n (List.mem_cons_self ..)).2
    rw [size_cat] at h1
    show (intsX (t ++ numX n) l).size ≤ _
    rw [List.length_cons]
    omega
/-- What Read has read: votes that may be, and what is left; or it has stopped, and they are zero. -/
def VoSpec (S : ByteArray) (ys : List Int) (n b : Bool) (S' : ByteArray) : Prop := (b = true → ys = [] ∧ n = false) ∧ (b = false → rightV ys = true ∧ S = votX ys n ++ S') ∧ ∀ zs m T, rightV zs = true → S = votX zs m ++ T → b = false
theorem VoSpec.yes {y ys : List Int} {n m b : Bool} {S' : ByteArray} (h : VoSpec (votX y n) ys m b S') (hy : rightV y = true) : b = false ∧ ys = y ∧ m = n ∧ S' = .empty := by
  have hb := h.2.2 y n .empty hy (by apply bl_inj; rw [bl_append]; exact (List.append_nil _).symm)
  obtain ⟨e1, e2, e3⟩ := votX_self (h.2.1 hb).2
  exact ⟨hb, e1.symm, e2.symm, e3⟩
theorem VoSpec.no {y ys : List Int} {n m b : Bool} {S' : ByteArray} (h : VoSpec (votX y n) ys m b S') (hy : rightV y = false) : b = true ∧ ys = [] ∧ m = false := by
  cases b with
  | true => exact ⟨rfl, h.1 rfl⟩
  | false =>
    obtain ⟨h1, h2⟩ := h.2.1 rfl
    rw [(votX_self h2).1, h1] at hy
    cases hy
theorem VoSpec.len {S : ByteArray} {ys : List Int} {m b : Bool} {S' : ByteArray} (h : VoSpec S ys m b S') : ys.length ≤ 12 := by
  cases b with
  | true => rw [(h.1 rfl).1]; exact Nat.zero_le _
  | false => exact (rightV_iff.1 (h.2.1 rfl).1).len
/-- What the law asks of the program's Write and Read. -/
structure GtRW : Prop where
  write : ∀ {w W : World} {m P : Nat} {T : ByteArray} {A : Option Addr} {c : Nat} {yes : List Int} (no : Bool), WrB w W m P T → Below w.heap.size w W → m ≤ W.heap.size → IntsC w A c yes → (∀ z ∈ yes, -9223372036854775808 ≤ z ∧ z ≤ 9223372036854775807) → yes.length ≤ 1000 → T.size ≤ 1000000 →
    Calls Tryd.prog 5 #[.pointer (some ⟨P, 0, none⟩), .agg #[.slice A yes.length c, .bool no]] W (WroteB w W m P (intsX T (votL yes no)))
  read : ∀ {w : World} {R : Nat} {S : ByteArray}, RdAt w R S false → VarsAt w → S.size ≤ 1000000 →
    Calls Tryd.prog 8 #[.pointer (some ⟨R, 0, none⟩)] w fun e w' => ∃ B d ys n b S', e = .returned (.agg #[.slice B ys.length d, .bool n]) ∧ IntsC w' B d ys ∧ RdAt w' R S' b ∧ Only1 R w w' ∧ VoSpec S ys n b S'
end Go.Proofs.YthmjeibanofliaaDoor
