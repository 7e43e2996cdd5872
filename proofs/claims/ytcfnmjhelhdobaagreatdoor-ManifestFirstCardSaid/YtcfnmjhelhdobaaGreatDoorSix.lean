/-
  A region that draws its order, of six operations: a variable is read (0); another one (1), a call on it (2), a row of what the call hands back (3); what is made of both (4, 5): the four orders there are. No program is named here.
-/
import Derived.OrdersIn
import Derived.OwnWalkIn
import Derived.Laws.AppendOwn
import Derived.Below
import Derived.Test.YtcfnmjhelhdobaaGreatDoorPhaseC
namespace Go.Proofs.YtcfnmjhelhdobaaGreatDoor
open Go Go.RowKit

section
variable {F : Fence} {n : Nat} {P : Program} {ops : Array Oper} {Q : Exit → Act → World → Prop} {md : Region.Mode}
theorem in_one {f i : Nat} {L : Array Bool} {a : Act} {w : World} (h : Region.ready md ops L = [i]) (s : wpOpIn F n P ops Q i (wpAnyIn F n P md ops Q f (L.setIfInBounds i true)) a w) : wpAnyIn F n P md ops Q (f + 1) L a w :=
  wpAnyIn_ready h (by simp) fun j hj => by
    obtain rfl := List.mem_singleton.1 hj
    exact s
theorem in_two {f i k : Nat} {L : Array Bool} {a : Act} {w : World} (h : Region.ready md ops L = [i, k]) (s : wpOpIn F n P ops Q i (wpAnyIn F n P md ops Q f (L.setIfInBounds i true)) a w) (t : wpOpIn F n P ops Q k (wpAnyIn F n P md ops Q f (L.setIfInBounds k true)) a w) : wpAnyIn F n P md ops Q (f + 1) L a w :=
  wpAnyIn_ready h (by simp) fun j hj => by
    rcases List.mem_cons.1 hj with rfl | hj
    · exact s
    · obtain rfl := List.mem_singleton.1 hj
      exact t
theorem six_orders {S : World → Prop} {a : Act} (d0 d1 d2 d3 : Tmp) (v x y : Value) (z : Nat → Value) {o : Obj} {w : World} (hs : ops.size = 6) (hm : P.follows .mixedOrders = true) {id : Nat}
    (r0 : Region.ready .any ops #[false, false, false, false, false, false] = [0, 1]) (r1 : Region.ready .any ops #[true, false, false, false, false, false] = [1]) (r2 : Region.ready .any ops #[false, true, false, false, false, false] = [0, 2])
    (r3 : Region.ready .any ops #[true, true, false, false, false, false] = [2]) (r4 : Region.ready .any ops #[false, true, true, false, false, false] = [0, 3]) (r5 : Region.ready .any ops #[true, true, true, false, false, false] = [3]) (r6 : Region.ready .any ops #[false, true, true, true, false, false] = [0])
    (r7 : Region.ready .any ops #[true, true, true, true, false, false] = [4]) (r8 : Region.ready .any ops #[true, true, true, true, true, false] = [5]) (r9 : Region.ready .any ops #[true, true, true, true, true, true] = [])
    (n1 : d0 ≠ d1) (n2 : d0 ≠ d2) (n3 : d0 ≠ d3)
    (s0 : ∀ K A, S A → K (a.put (some d0) v) A → wpOpIn F n P ops Q 0 K a A) (s1 : ∀ K A, S A → K (a.put (some d1) x) A → wpOpIn F n P ops Q 1 K a A)
    (s01 : ∀ K A, S A → K ((a.put (some d0) v).put (some d1) x) A → wpOpIn F n P ops Q 1 K (a.put (some d0) v) A) (s10 : ∀ K A, S A → K ((a.put (some d1) x).put (some d0) v) A → wpOpIn F n P ops Q 0 K (a.put (some d1) x) A)
    (s12 : ∀ K A, S A → (∀ B, S B → K ((a.put (some d1) x).put (some d2) y) B) → wpOpIn F n P ops Q 2 K (a.put (some d1) x) A) (s012 : ∀ K A, S A → (∀ B, S B → K (((a.put (some d0) v).put (some d1) x).put (some d2) y) B) → wpOpIn F n P ops Q 2 K ((a.put (some d0) v).put (some d1) x) A)
    (s120 : ∀ K A, S A → K (((a.put (some d1) x).put (some d2) y).put (some d0) v) A → wpOpIn F n P ops Q 0 K ((a.put (some d1) x).put (some d2) y) A)
    (s123 : ∀ K A, S A → K (((a.put (some d1) x).put (some d2) y).put (some d3) (z A.heap.size)) (A.alloc o) → wpOpIn F n P ops Q 3 K ((a.put (some d1) x).put (some d2) y) A)
    (s0123 : ∀ K A, S A → K ((((a.put (some d0) v).put (some d1) x).put (some d2) y).put (some d3) (z A.heap.size)) (A.alloc o) → wpOpIn F n P ops Q 3 K (((a.put (some d0) v).put (some d1) x).put (some d2) y) A)
    (s1230 : ∀ K A, S A → K ((((a.put (some d1) x).put (some d2) y).put (some d3) (z A.heap.size)).put (some d0) v) (A.alloc o) → wpOpIn F n P ops Q 0 K (((a.put (some d1) x).put (some d2) y).put (some d3) (z A.heap.size)) (A.alloc o))
    (s4 : ∀ A, S A → wpOpIn F n P ops Q 4 (fun a' B => wpOpIn F n P ops Q 5 (fun a'' C => Q .normal a'' C) a' B) ((((a.put (some d0) v).put (some d1) x).put (some d2) y).put (some d3) (z A.heap.size)) (A.alloc o)) (hS : S w.drew) :
    (Code.region id ops true).wpIn F n P Q a w := by
  refine wpIn_region_any hm ?_
  rw [hs]
  have L0 : Array.replicate 6 false = #[false, false, false, false, false, false] := rfl
  rw [L0]
  have f4 : ∀ A, S A → wpAnyIn F n P .any ops Q 2 #[true, true, true, true, false, false] ((((a.put (some d0) v).put (some d1) x).put (some d2) y).put (some d3) (z A.heap.size)) (A.alloc o) := fun A hA =>
    in_one r7 (wpOpIn_mono (fun a' B h => in_one r8 (wpOpIn_mono (fun a'' C h' => wpAnyIn_done r9 h' _) h)) (s4 A hA))
  have f3 : ∀ A, S A → wpAnyIn F n P .any ops Q 3 #[true, true, true, false, false, false] (((a.put (some d0) v).put (some d1) x).put (some d2) y) A := fun A hA => in_one r5 (s0123 _ A hA (f4 A hA))
  have f2 : ∀ A, S A → wpAnyIn F n P .any ops Q 4 #[true, true, false, false, false, false] ((a.put (some d0) v).put (some d1) x) A := fun A hA => in_one r3 (s012 _ A hA fun B hB => f3 B hB)
  have p1 : (a.put (some d1) x).put (some d0) v = (a.put (some d0) v).put (some d1) x := put_swap _ _ (Ne.symm n1)
  have p2 : ((a.put (some d1) x).put (some d2) y).put (some d0) v = ((a.put (some d0) v).put (some d1) x).put (some d2) y := by rw [put_swap _ _ (Ne.symm n2), p1]
  have p3 : ∀ h, (((a.put (some d1) x).put (some d2) y).put (some d3) (z h)).put (some d0) v = (((a.put (some d0) v).put (some d1) x).put (some d2) y).put (some d3) (z h) := fun h => by rw [put_swap _ _ (Ne.symm n3), p2]
  refine in_two r0 (s0 _ _ hS (in_one r1 (s01 _ _ hS (f2 _ hS)))) (s1 _ _ hS (in_two r2 (s10 _ _ hS ?_) (s12 _ _ hS fun B hB => in_two r4 (s120 _ B hB ?_) (s123 _ B hB (in_one r6 (s1230 _ B hB ?_))))))
  · rw [p1]; exact f2 _ hS
  · rw [p2]; exact f3 B hB
  · rw [p3]; exact f4 B hB
/-- append onto a row of the call's own, as one step. -/
theorem opIn_append_own {i : Nat} {o : Oper} {K : Act → World → Prop} {a : Act} (w : World) (ho : ops[i]? = some o) (hgd : o.guard = none) (s x : Operand) (t : TypeId) (hop : o.op = .call { callee := .builtin .append, args := #[s, x], argTypes := #[t, t] })
    (base : Nat) (e : TypeId) (inf : TypeInfo) (z : Value) (size bytes : Nat) (h1 : P.underlying t = some (.slice e)) (h2 : P.info? e = some inf) (h3 : inf.zero = some z) (h4 : inf.size = size) (h5 : inf.bytes = bytes) (h6 : z.cells.size = size) (h7 : 0 < size)
    (v : Value) (k : Nat) (xs : List Value) (hs : a.eval s = v) (hown : w.ownsRow base e size v k xs) (ad : Addr) (m c : Nat) (news : List Value) (hx : a.eval x = .slice (some ad) m c) (hn : news.length = m * size)
    (hc : ∀ j u, news[j]? = some u → w.cell? (ad.add j) = some u) (h1c : ∀ u ∈ news, u.oneCell' = true) (b1 : k + m ≤ maxLen) (b2 : (k + m) * bytes ≤ 140737488355328) (b3 : base ≤ w.heap.size)
    (hK : ∀ v' w', w'.ownsRow base e size v' (k + m) (xs ++ news) → w.grownBy w' v.ownBlock → K (a.put o.dst v') w') : wpOpIn F n P ops Q i K a w := by
  refine wpOpIn_step ho fun K' hK' => ?_
  have hw : Region.wanted o (yielded ops a.tmps) = true := by simp [Region.wanted, hgd]
  rw [if_pos hw]
  obtain ⟨v', w', hrun, r1, r2, _⟩ := run_append_own (P := P) w base t o.type e inf z size bytes h1 h2 h3 h4 h5 h6 h7 v k xs hown ad m c news hn hc h1c b1 b2 b3
  refine ⟨?_, ?_⟩
  · simp [Oper.about, hop, resolve, Target.leads, Sem.run_pure]
  · rw [Oper.semAt_plain F _ _ (by rw [hop]; intro c hc'; cases hc')]
    simp [execOp, hop, resolve, invoke, builtin, hs, hx, hrun, Result.andThen]
    exact hK' _ _ (hK v' w' r1 r2)
end
end Go.Proofs.YtcfnmjhelhdobaaGreatDoor
