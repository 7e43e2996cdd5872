/-
  The first line of layer 9's laws, over what the program's order answers of two pipelines. No conditions.
-/
import Derived.Test.YtpndjeccfdcjpaaOrdM
import Derived.WalkKit
import Derived.OwnWalk
import Derived.BigQuiet
import Derived.Deep.QuietTactic
namespace Go.Proofs.Ytpndjeccfdcjpaa
open Go.RowKit

section
variable {w : World} {A B : Option Addr} {c d : Nat}
set_option maxHeartbeats 400000 in
set_option maxRecDepth 100000 in
theorem samen_is {l : List Nat} (ha : NatsAt w A l) (hb : NatsAt w B l) (hn : l.length ≤ 64) :
    Calls Try.prog 11 #[.slice A l.length c, .slice B l.length d] w fun e w' => e = .returned (.bool true) ∧ Below w.heap.size w w' := by
  have HA := Lib.hid ha
  have HB := Lib.hid hb
  clear ha hb
  go_enter Try.func11, Try.ntmps11
  go_wp2
  go_loopw [5] (fun i wr => ∃ k q : Nat, k ≤ l.length ∧ i = .int .i64 k ∧ wr = w.drewN q) (fun i _ => l.length - (intOf i).toNat)
  case atStart => exact ⟨0, 0, Nat.zero_le _, rfl, rfl⟩
  case round =>
    obtain ⟨k, q, hk, rfl, rfl⟩ := hrel
    by_cases hlt : k < l.length
    · obtain ⟨z, hz⟩ : ∃ z, l[k]? = some z := ⟨_, List.getElem?_eq_getElem hlt⟩
      obtain ⟨ad, rfl, h0⟩ := HA.out.at_ hz
      obtain ⟨bd, rfl, h1⟩ := HB.out.at_ hz
      clear hz
      go_wp2
      go_quiet (fail)
      go_wp2
      go_roundw
      case rel => exact ⟨k + 1, _, by omega, by go_num, rfl⟩
      case measure => simp [intOf]; omega
    · go_wp2
      go_ret
      exact ⟨rfl, Below.drewN_ (Below.refl _ _) _⟩
end
abbrev awN : ByteArray := ⟨#[112]⟩
abbrev aw3 : List TkP := [⟨⟨#[97]⟩, [], 0, 1, 0, 0, 0⟩, ⟨⟨#[98]⟩, [0], 0, 1, 0, 0, 0⟩, ⟨⟨#[99]⟩, [0, 1], 0, 1, 0, 0, 0⟩]
abbrev aw2 : List TkP := [⟨⟨#[97]⟩, [1], 0, 1, 0, 0, 0⟩, ⟨⟨#[98]⟩, [0], 0, 1, 0, 0, 0⟩]
/-- What the program's order must answer of the two. -/
structure OrdAw : Prop where
  order3 : ∀ {w : World} {A : Option Addr} {c : Nat}, TksAt w A aw3 → 3 ≤ c → Calls Try.prog 10 #[.agg #[.string awN, .slice A (3 : Nat) c]] w fun e w' => (∃ B b, e = .returned (.tuple #[.slice B (3 : Nat) b, .bool true]) ∧ NatsAt w' B [0, 1, 2]) ∧ Below w.heap.size w w'
  order2 : ∀ {w : World} {A : Option Addr} {c : Nat}, TksAt w A aw2 → 2 ≤ c → Calls Try.prog 10 #[.agg #[.string awN, .slice A (2 : Nat) c]] w fun e w' => (∃ v, e = .returned (.tuple #[v, .bool false])) ∧ Below w.heap.size w w'
  round3 : ∀ {w : World} {A : Option Addr} {c : Nat}, TksAt w A aw3 → 3 ≤ c → Calls Try.prog 8 #[.agg #[.string awN, .slice A (3 : Nat) c]] w fun e w' => e = .returned (.int .i64 (-1)) ∧ Below w.heap.size w w'
  round2 : ∀ {w : World} {A : Option Addr} {c : Nat}, TksAt w A aw2 → 2 ≤ c → Calls Try.prog 8 #[.agg #[.string awN, .slice A (2 : Nat) c]] w fun e w' => e = .returned (.int .i64 0) ∧ Below w.heap.size w w'
  round0 : ∀ {w : World}, Calls Try.prog 8 #[.agg #[.string ⟨#[]⟩, .slice none 0 0]] w fun e w' => e = .returned (.int .i64 (-1)) ∧ Below w.heap.size w w'
  long3 : ∀ {w : World} {A : Option Addr} {c : Nat}, TksAt w A aw3 → 3 ≤ c → Calls Try.prog 7 #[.agg #[.string awN, .slice A (3 : Nat) c]] w fun e w' => e = .returned (.int .i64 3) ∧ Below w.heap.size w w'
  long2 : ∀ {w : World} {A : Option Addr} {c : Nat}, TksAt w A aw2 → 2 ≤ c → Calls Try.prog 7 #[.agg #[.string awN, .slice A (2 : Nat) c]] w fun e w' => e = .returned (.int .i64 0) ∧ Below w.heap.size w w'
  ready3 : ∀ {w : World} {A D : Option Addr} {c d : Nat}, TksAt w A aw3 → 3 ≤ c → BoolsAt w D [true] → 1 ≤ d → Calls Try.prog 9 #[.agg #[.string awN, .slice A (3 : Nat) c], .slice D (1 : Nat) d] w fun e w' => (∃ B b, e = .returned (.slice B (1 : Nat) b) ∧ NatsAt w' B [1]) ∧ Below w.heap.size w w'
  behind3 : ∀ {w : World} {A : Option Addr} {c : Nat}, TksAt w A aw3 → 3 ≤ c → Calls Try.prog 12 #[.agg #[.string awN, .slice A (3 : Nat) c], .int .i64 0] w fun e w' => (∃ B b, e = .returned (.slice B (2 : Nat) b) ∧ NatsAt w' B [1, 2]) ∧ Below w.heap.size w w'
  ahead3 : ∀ {w : World} {A : Option Addr} {c : Nat}, TksAt w A aw3 → 3 ≤ c → Calls Try.prog 13 #[.agg #[.string awN, .slice A (3 : Nat) c], .int .i64 2] w fun e w' => (∃ B b, e = .returned (.slice B (2 : Nat) b) ∧ NatsAt w' B [0, 1]) ∧ Below w.heap.size w w'
theorem row_cell {W : World} {g : Nat} {cs : Array Value} {t : TypeId} (h : W.heap[g]? = some (.cells cs t (0, 0))) (j : Nat) (v : Value) (hv : cs[j]? = some v) : W.cell? ((⟨g, 0, none⟩ : Addr).add j) = some v := by
  have ha : (⟨g, 0, none⟩ : Addr).add j = ⟨g, j, none⟩ := by unfold Addr.add; split <;> simp_all
  rw [ha]
  simp [World.cell?, h, hv]
theorem nats_row {W : World} {g : Nat} {l : List Nat} {t : TypeId} (h : W.heap[g]? = some (.cells (l.map fun (n : Nat) => Value.int .i64 (n : Int)).toArray t (0, 0))) : NatsAt W (some ⟨g, 0, none⟩) l := fun _ => ⟨_, rfl, fun i n hi => row_cell h _ _ (by simp [hi])⟩
theorem tks3_at {W : World} {a b t : Nat} {T U : TypeId} (ha : W.heap[a]? = some (.cells #[.int .i64 0] U (0, 0))) (hb : W.heap[b]? = some (.cells #[.int .i64 0, .int .i64 1] U (0, 0)))
    (ht : W.heap[t]? = some (.cells #[.string ⟨#[97]⟩, .slice none 0 0, .int .i64 0, .int .i64 1, .int .i64 0, .int .i64 0, .int .u16 0, .string ⟨#[98]⟩, .slice (some ⟨a, 0, none⟩) 1 1, .int .i64 0, .int .i64 1, .int .i64 0, .int .i64 0, .int .u16 0, .string ⟨#[99]⟩, .slice (some ⟨b, 0, none⟩) 2 2, .int .i64 0, .int .i64 1, .int .i64 0, .int .i64 0, .int .u16 0] T (0, 0))) : TksAt W (some ⟨t, 0, none⟩) aw3 := fun _ => ⟨_, rfl, fun i x hi => by
  match i with
  | 0 =>
    obtain rfl := Option.some.inj hi
    exact ⟨none, 0, fun j v hj => row_cell ht _ _ (by rcases j with _ | _ | _ | _ | _ | _ | _ | j <;> simp [tkC] at hj ⊢ <;> exact hj), fun h => absurd h (Nat.lt_irrefl _), Nat.le_refl _⟩
  | 1 =>
    obtain rfl := Option.some.inj hi
    exact ⟨some ⟨a, 0, none⟩, 1, fun j v hj => row_cell ht _ _ (by rcases j with _ | _ | _ | _ | _ | _ | _ | j <;> simp [tkC] at hj ⊢ <;> exact hj), nats_row (l := [0]) ha, Nat.le_refl _⟩
  | 2 =>
    obtain rfl := Option.some.inj hi
    exact ⟨some ⟨b, 0, none⟩, 2, fun j v hj => row_cell ht _ _ (by rcases j with _ | _ | _ | _ | _ | _ | _ | j <;> simp [tkC] at hj ⊢ <;> exact hj), nats_row (l := [0, 1]) hb, Nat.le_refl _⟩
  | i + 3 => simp at hi⟩
theorem tks2_at {W : World} {a b t : Nat} {T U : TypeId} (ha : W.heap[a]? = some (.cells #[.int .i64 1] U (0, 0))) (hb : W.heap[b]? = some (.cells #[.int .i64 0] U (0, 0)))
    (ht : W.heap[t]? = some (.cells #[.string ⟨#[97]⟩, .slice (some ⟨a, 0, none⟩) 1 1, .int .i64 0, .int .i64 1, .int .i64 0, .int .i64 0, .int .u16 0, .string ⟨#[98]⟩, .slice (some ⟨b, 0, none⟩) 1 1, .int .i64 0, .int .i64 1, .int .i64 0, .int .i64 0, .int .u16 0] T (0, 0))) : TksAt W (some ⟨t, 0, none⟩) aw2 := fun _ => ⟨_, rfl, fun i x hi => by
  match i with
  | 0 =>
    obtain rfl := Option.some.inj hi
    exact ⟨some ⟨a, 0, none⟩, 1, fun j v hj => row_cell ht _ _ (by rcases j with _ | _ | _ | _ | _ | _ | _ | j <;> simp [tkC] at hj ⊢ <;> exact hj), nats_row (l := [1]) ha, Nat.le_refl _⟩
  | 1 =>
    obtain rfl := Option.some.inj hi
    exact ⟨some ⟨b, 0, none⟩, 1, fun j v hj => row_cell ht _ _ (by rcases j with _ | _ | _ | _ | _ | _ | _ | j <;> simp [tkC] at hj ⊢ <;> exact hj), nats_row (l := [0]) hb, Nat.le_refl _⟩
  | i + 2 => simp at hi⟩
/-- Four things laid down, one by one. -/
theorem four (w : World) (o1 o2 o3 o4 : Obj) : ((((w.alloc o1).alloc o2).alloc o3).alloc o4).heap[w.heap.size]? = some o1 ∧ ((((w.alloc o1).alloc o2).alloc o3).alloc o4).heap[w.heap.size + 1]? = some o2 ∧ ((((w.alloc o1).alloc o2).alloc o3).alloc o4).heap[w.heap.size + 1 + 1]? = some o3 ∧
    ((((w.alloc o1).alloc o2).alloc o3).alloc o4).heap[w.heap.size + 1 + 1 + 1]? = some o4 ∧ Below w.heap.size w ((((w.alloc o1).alloc o2).alloc o3).alloc o4) := by
  have al : ∀ (v : World) (o : Obj), Below v.heap.size v (v.alloc o) := fun v o => (Below.refl _ _).alloc (Nat.le_refl _) o
  have m1 := made_at w o1
  have m2 := made_at (w.alloc o1) o2
  have m3 := made_at ((w.alloc o1).alloc o2) o3
  have m4 := made_at (((w.alloc o1).alloc o2).alloc o3) o4
  simp only [World.size_alloc] at m2 m3 m4
  exact ⟨later_at (al _ _) (later_at (al _ _) (later_at (al _ _) m1)), later_at (al _ _) (later_at (al _ _) m2), later_at (al _ _) m3, m4, below_step (below_step (below_step (al _ _) (al _ _)) (al _ _)) (al _ _)⟩
/-- Where the two lie. -/
def AwQ (a p b q : Nat) (W : World) : Prop := TksAt W (some ⟨a, 0, none⟩) aw3 ∧ W.heap[p]? = some (.cells #[.string ⟨#[112]⟩, .slice (some ⟨a, 0, none⟩) 3 3] 24 (0, 0)) ∧ TksAt W (some ⟨b, 0, none⟩) aw2 ∧ W.heap[q]? = some (.cells #[.string ⟨#[112]⟩, .slice (some ⟨b, 0, none⟩) 2 2] 24 (0, 0))
theorem AwQ.later {a p b q : Nat} {W W' : World} (h : AwQ a p b q W) (hb : Below W.heap.size W W') : AwQ a p b q W' := ⟨h.1.later hb, later_at hb h.2.1, h.2.2.1.later hb, later_at hb h.2.2.2⟩
set_option maxHeartbeats 4000000 in
set_option maxRecDepth 100000 in
theorem ordawake_of (C : OrdAw) (w : World) : Calls Try.prog 4 #[] w fun e w' => e = .returned (.bool true) ∧ Below w.heap.size w w' := by
  go_enter Try.func4, Try.ntmps4
  go_upto_region 2 with fail
  have h4 := four w (.cells #[.int .i64 0] 3) (.cells #[.int .i64 0, .int .i64 1] 3) (.cells #[.string ⟨#[97]⟩, .slice none 0 0, .int .i64 0, .int .i64 1, .int .i64 0, .int .i64 0, .int .u16 0, .string ⟨#[98]⟩, .slice (some ⟨w.heap.size, 0, none⟩) 1 1, .int .i64 0, .int .i64 1, .int .i64 0, .int .i64 0, .int .u16 0, .string ⟨#[99]⟩, .slice (some ⟨w.heap.size + 1, 0, none⟩) 2 2, .int .i64 0, .int .i64 1, .int .i64 0, .int .i64 0, .int .u16 0] 34) (.cells #[.string ⟨#[112]⟩, .slice (some ⟨w.heap.size + 1 + 1, 0, none⟩) 3 3] 24)
  generalize hW1 : ((((w.alloc (.cells #[.int .i64 0] 3)).alloc (.cells #[.int .i64 0, .int .i64 1] 3)).alloc (.cells #[.string ⟨#[97]⟩, .slice none 0 0, .int .i64 0, .int .i64 1, .int .i64 0, .int .i64 0, .int .u16 0, .string ⟨#[98]⟩, .slice (some ⟨w.heap.size, 0, none⟩) 1 1, .int .i64 0, .int .i64 1, .int .i64 0, .int .i64 0, .int .u16 0, .string ⟨#[99]⟩, .slice (some ⟨w.heap.size + 1, 0, none⟩) 2 2, .int .i64 0, .int .i64 1, .int .i64 0, .int .i64 0, .int .u16 0] 34)).alloc (.cells #[.string ⟨#[112]⟩, .slice (some ⟨w.heap.size + 1 + 1, 0, none⟩) 3 3] 24)) = W1 at *
  clear hW1
  obtain ⟨ha, hb, ht, hp, hbel⟩ := h4
  have HT := Lib.hid (tks3_at ha hb ht)
  have HP := Lib.hid hp
  have HB := Lib.hid hbel
  have x0 := cellH hp 0
  have x1 := cellH hp 1
  simp at x0 x1
  generalize w.heap.size + 1 + 1 + 1 = P at *
  generalize w.heap.size + 1 + 1 = A at *
  clear ha hb ht hp hbel
  go_wp2_with fail
  refine (C.order3 HT.out (by omega)).mono ?_
  rintro e w2 ⟨⟨B1, b1, rfl, hN⟩, hb2⟩
  clear x0 x1
  go_upto_region 4 with fail
  have h4 := four w2 (.cells #[.int .i64 1] 3) (.cells #[.int .i64 0] 3) (.cells #[.string ⟨#[97]⟩, .slice (some ⟨w2.heap.size, 0, none⟩) 1 1, .int .i64 0, .int .i64 1, .int .i64 0, .int .i64 0, .int .u16 0, .string ⟨#[98]⟩, .slice (some ⟨w2.heap.size + 1, 0, none⟩) 1 1, .int .i64 0, .int .i64 1, .int .i64 0, .int .i64 0, .int .u16 0] 34) (.cells #[.string ⟨#[112]⟩, .slice (some ⟨w2.heap.size + 1 + 1, 0, none⟩) 2 2] 24)
  generalize hW2 : ((((w2.alloc (.cells #[.int .i64 1] 3)).alloc (.cells #[.int .i64 0] 3)).alloc (.cells #[.string ⟨#[97]⟩, .slice (some ⟨w2.heap.size, 0, none⟩) 1 1, .int .i64 0, .int .i64 1, .int .i64 0, .int .i64 0, .int .u16 0, .string ⟨#[98]⟩, .slice (some ⟨w2.heap.size + 1, 0, none⟩) 1 1, .int .i64 0, .int .i64 1, .int .i64 0, .int .i64 0, .int .u16 0] 34)).alloc (.cells #[.string ⟨#[112]⟩, .slice (some ⟨w2.heap.size + 1 + 1, 0, none⟩) 2 2] 24)) = W2 at *
  clear hW2
  obtain ⟨ha, hb, ht, hq, hbel⟩ := h4
  generalize hQ : w2.heap.size + 1 + 1 + 1 = Q at *
  generalize hE : w2.heap.size + 1 + 1 = E at *
  have HS := Lib.hid (show AwQ A P E Q W2 from ⟨(HT.out.later hb2).later hbel, later_at hbel (later_at hb2 HP.out), tks2_at ha hb ht, hq⟩)
  have HN := Lib.hid (hN.later hbel)
  have HB2 := Lib.hid (below_step (below_step HB.out hb2) hbel)
  clear ha hb ht hq hbel hb2 HT HP HB hN hQ hE
  have z0 := cellH HS.out.2.2.2 0
  have z1 := cellH HS.out.2.2.2 1
  simp at z0 z1
  go_wp2_with fail
  refine (C.order2 HS.out.2.2.1 (by omega)).mono ?_
  rintro e w3 ⟨⟨v, rfl⟩, hb⟩
  have HN4 := Lib.hid ((HN.out.later hb).later ((Below.refl _ _).alloc (Nat.le_refl _) (.cells #[.int .i64 0, .int .i64 1, .int .i64 2] 3)))
  have hb4 := below_step hb ((Below.refl _ _).alloc (Nat.le_refl _) (.cells #[.int .i64 0, .int .i64 1, .int .i64 2] 3))
  have HS4 := Lib.hid (HS.out.later hb4)
  have HB4 := Lib.hid (below_step HB2.out hb4)
  clear z0 z1 HS HB2 hb hb4
  have HS := HS4
  have HB2 := HB4
  clear HS4 HB4
  go_wp2_with fail
  refine (samen_is (l := [0, 1, 2]) HN4.out (nats_row (l := [0, 1, 2]) (made_at _ _)) (by decide)).mono ?_
  rintro e w4 ⟨rfl, hb⟩
  clear HN4
  have HS5 := Lib.hid (HS.out.later hb)
  have HB5 := Lib.hid (below_step HB2.out hb)
  clear HS HB2 hb
  have HS := HS5
  have HB2 := HB5
  clear HS5 HB5
  have x0 := cellH HS.out.2.1 0
  have x1 := cellH HS.out.2.1 1
  have z0 := cellH HS.out.2.2.2 0
  have z1 := cellH HS.out.2.2.2 1
  simp at x0 x1 z0 z1
  go_wp2_with fail
  refine (C.round2 HS.out.2.2.1 (by omega)).mono ?_
  rintro e w5 ⟨rfl, hb⟩
  have HS6 := Lib.hid (HS.out.later hb)
  have HB6 := Lib.hid (below_step HB2.out hb)
  clear HS HB2 hb
  have HS := HS6
  have HB2 := HB6
  clear HS6 HB6
  clear x0 x1 z0 z1
  have x0 := cellH HS.out.2.1 0
  have x1 := cellH HS.out.2.1 1
  have z0 := cellH HS.out.2.2.2 0
  have z1 := cellH HS.out.2.2.2 1
  simp at x0 x1 z0 z1
  go_wp2_with fail
  refine (C.round3 HS.out.1 (by omega)).mono ?_
  rintro e w6 ⟨rfl, hb⟩
  have HS7 := Lib.hid (HS.out.later hb)
  have HB7 := Lib.hid (below_step HB2.out hb)
  clear HS HB2 hb
  have HS := HS7
  have HB2 := HB7
  clear HS7 HB7
  clear x0 x1 z0 z1
  have x0 := cellH HS.out.2.1 0
  have x1 := cellH HS.out.2.1 1
  have z0 := cellH HS.out.2.2.2 0
  have z1 := cellH HS.out.2.2.2 1
  simp at x0 x1 z0 z1
  go_wp2_with fail
  refine (C.long3 HS.out.1 (by omega)).mono ?_
  rintro e w7 ⟨rfl, hb⟩
  have HS8 := Lib.hid (HS.out.later hb)
  have HB8 := Lib.hid (below_step HB2.out hb)
  clear HS HB2 hb
  have HS := HS8
  have HB2 := HB8
  clear HS8 HB8
  clear x0 x1 z0 z1
  have x0 := cellH HS.out.2.1 0
  have x1 := cellH HS.out.2.1 1
  have z0 := cellH HS.out.2.2.2 0
  have z1 := cellH HS.out.2.2.2 1
  simp at x0 x1 z0 z1
  go_wp2_with fail
  refine (C.long2 HS.out.2.2.1 (by omega)).mono ?_
  rintro e w8 ⟨rfl, hb⟩
  have hbr := below_step hb ((Below.refl _ _).alloc (Nat.le_refl _) (.cells #[.bool true] 4))
  have HS9 := Lib.hid (HS.out.later hbr)
  have HB9 := Lib.hid (below_step HB2.out hbr)
  have HX9 := Lib.hid (HS.out.later hb)
  clear x0 x1 z0 z1 HS HB2 hb hbr
  have HS := HS9
  have HB2 := HB9
  clear HS9 HB9
  have x0 := cellH HX9.out.2.1 0
  have x1 := cellH HX9.out.2.1 1
  simp at x0 x1
  go_wp2_with fail
  refine (C.ready3 HS.out.1 (by omega) (fun _ => ⟨_, rfl, fun i b hi => row_cell (made_at _ _) _ _ (by rcases i with _ | i <;> simp at hi ⊢; exact hi)⟩) (by omega)).mono ?_
  rintro e w9 ⟨⟨B2, b2, rfl, hN⟩, hb⟩
  clear HX9
  have HN10 := Lib.hid (hN.later ((Below.refl _ _).alloc (Nat.le_refl _) (.cells #[.int .i64 1] 3)))
  have hbr := below_step hb ((Below.refl _ _).alloc (Nat.le_refl _) (.cells #[.int .i64 1] 3))
  have HS10 := Lib.hid (HS.out.later hbr)
  have HB10 := Lib.hid (below_step HB2.out hbr)
  clear x0 x1 HS HB2 hb hbr hN
  have HS := HS10
  have HB2 := HB10
  clear HS10 HB10
  go_wp2_with fail
  refine (samen_is (l := [1]) HN10.out (nats_row (l := [1]) (made_at _ _)) (by decide)).mono ?_
  rintro e w10 ⟨rfl, hb⟩
  clear HN10
  have HS11 := Lib.hid (HS.out.later hb)
  have HB11 := Lib.hid (below_step HB2.out hb)
  clear HS HB2 hb
  have HS := HS11
  have HB2 := HB11
  clear HS11 HB11
  have x0 := cellH HS.out.2.1 0
  have x1 := cellH HS.out.2.1 1
  have z0 := cellH HS.out.2.2.2 0
  have z1 := cellH HS.out.2.2.2 1
  simp at x0 x1 z0 z1
  go_wp2_with fail
  refine (C.behind3 HS.out.1 (by omega)).mono ?_
  rintro e w11 ⟨⟨B3, b3, rfl, hN⟩, hb⟩
  have HN12 := Lib.hid (hN.later ((Below.refl _ _).alloc (Nat.le_refl _) (.cells #[.int .i64 1, .int .i64 2] 3)))
  have hbr := below_step hb ((Below.refl _ _).alloc (Nat.le_refl _) (.cells #[.int .i64 1, .int .i64 2] 3))
  have HS12 := Lib.hid (HS.out.later hbr)
  have HB12 := Lib.hid (below_step HB2.out hbr)
  clear x0 x1 z0 z1 HS HB2 hb hbr hN
  have HS := HS12
  have HB2 := HB12
  clear HS12 HB12
  go_wp2_with fail
  refine (samen_is (l := [1, 2]) HN12.out (nats_row (l := [1, 2]) (made_at _ _)) (by decide)).mono ?_
  rintro e w12 ⟨rfl, hb⟩
  clear HN12
  have HS13 := Lib.hid (HS.out.later hb)
  have HB13 := Lib.hid (below_step HB2.out hb)
  clear HS HB2 hb
  have HS := HS13
  have HB2 := HB13
  clear HS13 HB13
  have x0 := cellH HS.out.2.1 0
  have x1 := cellH HS.out.2.1 1
  have z0 := cellH HS.out.2.2.2 0
  have z1 := cellH HS.out.2.2.2 1
  simp at x0 x1 z0 z1
  go_wp2_with fail
  refine (C.ahead3 HS.out.1 (by omega)).mono ?_
  rintro e w13 ⟨⟨B4, b4, rfl, hN⟩, hb⟩
  have HN14 := Lib.hid (hN.later ((Below.refl _ _).alloc (Nat.le_refl _) (.cells #[.int .i64 0, .int .i64 1] 3)))
  have hbr := below_step hb ((Below.refl _ _).alloc (Nat.le_refl _) (.cells #[.int .i64 0, .int .i64 1] 3))
  have HS14 := Lib.hid (HS.out.later hbr)
  have HB14 := Lib.hid (below_step HB2.out hbr)
  clear x0 x1 z0 z1 HS HB2 hb hbr hN
  have HS := HS14
  have HB2 := HB14
  clear HS14 HB14
  go_wp2_with fail
  refine (samen_is (l := [0, 1]) HN14.out (nats_row (l := [0, 1]) (made_at _ _)) (by decide)).mono ?_
  rintro e w14 ⟨rfl, hb⟩
  clear HN14
  have HS15 := Lib.hid (HS.out.later hb)
  have HB15 := Lib.hid (below_step HB2.out hb)
  clear HS HB2 hb
  have HS := HS15
  have HB2 := HB15
  clear HS15 HB15
  have x0 := cellH HS.out.2.1 0
  have x1 := cellH HS.out.2.1 1
  have z0 := cellH HS.out.2.2.2 0
  have z1 := cellH HS.out.2.2.2 1
  simp at x0 x1 z0 z1
  go_wp2_with fail
  refine (C.round0).mono ?_
  rintro e w15 ⟨rfl, hb⟩
  have HB9 := Lib.hid (below_step HB2.out hb)
  clear hb HB2 HS
  go_wp2_with fail
  go_ret
  exact ⟨rfl, HB9.out⟩
end Go.Proofs.Ytpndjeccfdcjpaa
