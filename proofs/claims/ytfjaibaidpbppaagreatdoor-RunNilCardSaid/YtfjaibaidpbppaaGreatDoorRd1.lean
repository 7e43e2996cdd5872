/-
  Memory facts that layers 11 and 12 use: rows of the call's own, cells, numbers in a row. No program is named here but for int. Tries in plain words, two of them held against each other, and what layer 11's laws ask of the program's lease (a bundle). No conditions. Votes in plain words: numbers that rise, each once; one more; in whatever order. No program is named here. Lists of numbers that may be nil, in memory; the document's In, Same and Vote. No conditions but how the lists lie. One number read, in words that compose: what the program's Reader.Int answers and leaves. Conditions: what the library's variables hold.
-/
import Derived.Test.YtfjaibaidpbppaaGreatDoorCodBa
import Derived.Test.YtfjaibaidpbppaaGreatDoorPhaseB
import Derived.Test.YtfjaibaidpbppaaGreatDoorProg
import Derived.Laws.AppendOwn
import Derived.WalkKit
import Derived.WalkSpells
import Derived.OwnWalk
import Derived.Below
import Derived.Lib.Hide
import Derived.Outline
import Derived.Deep.DeepCutAuto
import Derived.KernelRfl
import Derived.Lib.AppendIntMem
import Derived.Deep.RegionLaw
import Derived.Laws.OwnMore
import Derived.Laws.AppendOwnNone
import Derived.Deep.QuietTactic
import Derived.BigQuiet
namespace Go.Proofs.YtfjaibaidpbppaaGreatDoor
open Go.RowKit

/-- A list of numbers stands at A. -/
def IntsL (w : World) (A : Option Addr) (zs : List Int) : Prop :=
  0 < zs.length → ∃ ad, A = some ad ∧ ∀ i, i < zs.length → w.cell? (ad.add i) = some (.int .i64 (zs.getD i 0))
theorem IntsL.later {w w' : World} {A : Option Addr} {zs : List Int} (h : IntsL w A zs) (hb : Below w.heap.size w w') : IntsL w' A zs := fun hn => by
  obtain ⟨ad, e, hc⟩ := h hn
  exact ⟨ad, e, fun i hi => cell_later hb (hc i hi)⟩
theorem IntsL.at_ {w : World} {A : Option Addr} {zs : List Int} (h : IntsL w A zs) {i : Nat} (hi : i < zs.length) : ∃ ad, A = some ad ∧ w.cell? (ad.add i) = some (.int .i64 (zs.getD i 0)) := by
  obtain ⟨ad, e, hc⟩ := h (by omega)
  exact ⟨ad, e, hc i hi⟩
theorem intsL_of_own {w : World} {base : Nat} {v : Value} {n : Nat} {zs : List Int} (h : w.ownsRow base 3 1 v n (zs.map (Value.int .i64))) : ∃ A c, v = .slice A zs.length c ∧ IntsL w A zs := by
  have hl : zs.length = n := by simpa using h.1
  subst hl
  rcases h.2 with ⟨rfl, h0⟩ | ⟨g, cap, cur, rfl, _, _, hc, _⟩
  · exact ⟨none, 0, by rw [h0], fun h => absurd h (by omega)⟩
  · refine ⟨_, cap, rfl, fun _ => ⟨_, rfl, fun i hi => h.cells (g := g) rfl i _ ?_⟩⟩
    simp [List.getElem?_map, List.getElem?_eq_getElem hi]

theorem cell_alloc {w : World} {a : Addr} {v : Value} {o : Obj} (h : w.cell? a = some v) : (w.alloc o).cell? a = some v := by
  rw [World.cell?_alloc_lt _ _ _ (World.block_lt_of_cell? _ _ h)]; exact h

end Go.Proofs.YtfjaibaidpbppaaGreatDoor

namespace Go.Proofs.YtfjaibaidpbppaaGreatDoor
open Go.RowKit

structure TrP where
  st : Int
  sn : Int
  ms : Int
  wk : Int
  ls : Int
  un : Int
abbrev noTr : TrP := ⟨0, 0, 0, 0, 0, 0⟩
abbrev tryA (t : TrP) : Array Value := #[.int .i64 t.st, .int .i64 t.sn, .int .i64 t.ms, .int .i64 t.wk, .int .i64 t.ls, .int .i64 t.un]
abbrev tryV (t : TrP) : Value := .agg #[.int .i64 t.st, .int .i64 t.sn, .int .i64 t.ms, .int .i64 t.wk, .int .i64 t.ls, .int .i64 t.un]
/-- Are six numbers six others? -/
def eq6 (a0 a1 a2 a3 a4 a5 b0 b1 b2 b3 b4 b5 : Int) : Bool := (a0 == b0) && (a1 == b1) && (a2 == b2) && (a3 == b3) && (a4 == b4) && (a5 == b5)
abbrev sameTr (t u : TrP) : Bool := eq6 t.st t.sn t.ms t.wk t.ls t.un u.st u.sn u.ms u.wk u.ls u.un
theorem sameTr_iff {t u : TrP} : sameTr t u = true ↔ t = u := by
  obtain ⟨a0, a1, a2, a3, a4, a5⟩ := t
  obtain ⟨b0, b1, b2, b3, b4, b5⟩ := u
  simp [sameTr, eq6, and_assoc]
theorem sameTr_self (t : TrP) : sameTr t t = true := sameTr_iff.2 rfl
theorem sameTr_no {t u : TrP} (h : t ≠ u) : sameTr t u = false := by
  cases e : sameTr t u with
  | false => rfl
  | true => exact absurd (sameTr_iff.1 e) h
def openP (t : TrP) (now : Int) : TrP := if t.st = 0 then ⟨1, now, t.ms, t.wk, t.ls, t.un⟩ else t
def missP (t : TrP) (at_ retry : Int) : TrP := if t.st ≠ 2 then t else if retry < t.ms + 1 then ⟨4, 0, t.ms + 1, 0, 0, 0⟩ else ⟨1, at_ + (t.ms + 1), t.ms + 1, 0, 0, 0⟩
def settleP (t : TrP) (now retry : Int) : TrP := if t.st = 2 ∧ t.un ≤ now then missP t t.un retry else t
/-- Take: what is had, and what is told. -/
def takeP (t : TrP) (now wk ls time : Int) : TrP × Int := if t.st ≠ 1 ∨ now < t.sn then (noTr, 12) else (⟨2, 0, t.ms, wk, ls, now + time⟩, 0)
def holdsP (t : TrP) (now wk ls : Int) : Bool := (t.st == 2) && (t.wk == wk) && (t.ls == ls) && decide (now < t.un)
def beatP (t : TrP) (now time : Int) : TrP := if t.st = 2 then ⟨t.st, t.sn, t.ms, t.wk, t.ls, now + time⟩ else t
def doneP (t : TrP) : TrP := if t.st = 1 ∨ t.st = 2 then ⟨3, 0, t.ms, 0, 0, 0⟩ else t
def mostB (n : Int) : Bool := decide (0 ≤ n) && decide (n ≤ 1000000)
/-- May it be? -/
def rightT (t : TrP) : Bool := mostB t.sn && mostB t.wk && mostB t.ls && mostB t.un && (decide (0 ≤ t.st) && decide (t.st ≤ 4) && (decide (0 ≤ t.ms) && decide (t.ms ≤ 6))) && ((t.st == 2) || ((t.wk == 0) && (t.ls == 0) && (t.un == 0))) && ((t.st == 1) || (t.sn == 0))
/-- From -2^40 to 2^40. -/
def smI (n : Int) : Prop := -1099511627776 ≤ n ∧ n ≤ 1099511627776
structure SmallT (t : TrP) : Prop where
  st : smI t.st
  sn : smI t.sn
  ms : smI t.ms
  wk : smI t.wk
  ls : smI t.ls
  un : smI t.un
theorem settle_later {t : TrP} {a b : Int} (r : Int) (h : a ≤ b) : settleP (settleP t a r) b r = settleP t b r := by
  by_cases h1 : t.st = 2 ∧ t.un ≤ a
  · have e1 : settleP t a r = missP t t.un r := by unfold settleP; rw [if_pos h1]
    have e2 : settleP t b r = missP t t.un r := by unfold settleP; rw [if_pos ⟨h1.1, by omega⟩]
    rw [e1, e2]
    have h2 : (missP t t.un r).st ≠ 2 := by
      unfold missP
      rw [if_neg (by simp [h1.1])]
      split <;> simp
    unfold settleP
    rw [if_neg (fun h => h2 h.1)]
  · have e1 : settleP t a r = t := by unfold settleP; rw [if_neg h1]
    rw [e1]
theorem settle_twice (t : TrP) (a r : Int) : settleP (settleP t a r) a r = settleP t a r := settle_later r (Int.le_refl a)
theorem settle_held {t : TrP} {a : Int} (r : Int) {x y : Int} (h : holdsP t a x y = true) : settleP t a r = t := by
  unfold holdsP at h
  simp only [Bool.and_eq_true, beq_iff_eq, decide_eq_true_eq] at h
  unfold settleP
  rw [if_neg (by omega)]
theorem settle_ms (t : TrP) (a r : Int) : (settleP t a r).ms = t.ms ∨ ((settleP t a r).ms = t.ms + 1 ∧ (settleP t a r).st ≠ 2) := by
  unfold settleP
  split
  · rename_i h
    right
    unfold missP
    rw [if_neg (by simp [h.1])]
    split <;> simp
  · exact .inl rfl
theorem rightT_small {t : TrP} (h : rightT t = true) : SmallT t := by
  unfold rightT mostB at h
  simp only [Bool.and_eq_true, decide_eq_true_eq] at h
  obtain ⟨⟨⟨⟨⟨⟨h1, h2⟩, h3⟩, h4⟩, h5, h6⟩, _⟩, _⟩ := h
  constructor <;> unfold smI <;> omega
theorem settle_small {t : TrP} {a r : Int} (h : rightT t = true) : SmallT (settleP t a r) := by
  have hs := rightT_small h
  unfold rightT mostB at h
  simp only [Bool.and_eq_true, decide_eq_true_eq] at h
  obtain ⟨⟨⟨⟨⟨⟨h1, h2⟩, h3⟩, h4⟩, h5, h6⟩, _⟩, _⟩ := h
  unfold settleP
  split
  · unfold missP
    split
    · exact hs
    · split
      · constructor <;> unfold smI <;> simp only [] <;> omega
      · constructor <;> unfold smI <;> simp only [] <;> omega
  · exact hs
@[go_sem ↓] theorem eqTry (a0 a1 a2 a3 a4 a5 b0 b1 b2 b3 b4 b5 : Int) (w : World) : (Op.equalIn 10000 73 (.agg #[.int .i64 a0, .int .i64 a1, .int .i64 a2, .int .i64 a3, .int .i64 a4, .int .i64 a5]) (.agg #[.int .i64 b0, .int .i64 b1, .int .i64 b2, .int .i64 b3, .int .i64 b4, .int .i64 b5])).run Tryz.prog w = .ok (eq6 a0 a1 a2 a3 a4 a5 b0 b1 b2 b3 b4 b5) w := by
  have hS : Tryz.prog.underlying 73 = some (.struct (Tryz.prog.fieldsOf 73)) := by kernel_rfl
  rw [show (10000 : Nat) = 9999 + 1 from rfl, run_equalIn_agg w 9999 73 _ _ hS (by kernel_rfl)]
  simp only [Program.fieldsOf, Tryz.underlying73]
  go_simp
  unfold eq6
  by_cases h0 : a0 = b0 <;> by_cases h1 : a1 = b1 <;> by_cases h2 : a2 = b2 <;> by_cases h3 : a3 = b3 <;> by_cases h4 : a4 = b4 <;> by_cases h5 : a5 = b5 <;> simp [h0, h1, h2, h3, h4, h5]
end Go.Proofs.YtfjaibaidpbppaaGreatDoor

namespace Go.Proofs.YtfjaibaidpbppaaGreatDoor
open Go.RowKit

/-- Numbers from 0 to 11, rising. -/
def RisL (l : List Int) : Prop := l.Pairwise (· < ·) ∧ ∀ x ∈ l, 0 ≤ x ∧ x < 12
/-- One more, ahead of the first one that is greater. -/
def insL : List Int → Int → List Int
  | [], x => [x]
  | y :: l, x => if x < y then x :: y :: l else y :: insL l x
def okWho (x : Int) : Bool := decide (0 ≤ x) && decide (x < 12)
/-- Who is for it behind a vote. -/
def yesV (yes : List Int) (who : Int) (is : Bool) : List Int := if is && okWho who && !yes.contains who then insL yes who else yes
def noV (no is : Bool) : Bool := no || !is
def mayV (yes : List Int) (no : Bool) (need : Int) : Bool := !no && decide (need ≤ (yes.length : Int))
theorem insL_mem {x z : Int} : ∀ {l : List Int}, z ∈ insL l x ↔ z = x ∨ z ∈ l
  | [] => by simp [insL]
  | y :: l => by
    unfold insL
    split
    · simp
    · rw [List.mem_cons, insL_mem (l := l), List.mem_cons]
      constructor
      · rintro (h | h | h)
        · exact .inr (.inl h)
        · exact .inl h
        · exact .inr (.inr h)
      · rintro (h | h | h)
        · exact .inr (.inl h)
        · exact .inl h
        · exact .inr (.inr h)
theorem insL_rise {x : Int} : ∀ {l : List Int}, l.Pairwise (· < ·) → x ∉ l → (insL l x).Pairwise (· < ·)
  | [], _, _ => by simp [insL]
  | y :: l, h, hx => by
    have h1 := List.pairwise_cons.1 h
    unfold insL
    split
    · rename_i hlt
      refine List.pairwise_cons.2 ⟨fun z hz => ?_, h⟩
      rcases List.mem_cons.1 hz with rfl | hz
      · exact hlt
      · exact Int.lt_trans hlt (h1.1 z hz)
    · rename_i hlt
      have hne : x ≠ y := fun e => hx (by rw [e]; exact List.mem_cons_self ..)
      refine List.pairwise_cons.2 ⟨fun z hz => ?_, insL_rise h1.2 (fun hm => hx (List.mem_cons_of_mem _ hm))⟩
      rcases insL_mem.1 hz with rfl | hz
      · omega
      · exact h1.1 z hz
theorem insL_len {x : Int} : ∀ {l : List Int}, (insL l x).length = l.length + 1
  | [] => rfl
  | y :: l => by
    unfold insL
    split
    · simp
    · simp [insL_len (l := l)]
theorem rise_len : ∀ {l : List Int} {a : Int}, l.Pairwise (· < ·) → (∀ x ∈ l, a ≤ x ∧ x < 12) → a ≤ 12 → (l.length : Int) ≤ 12 - a
  | [], a, _, _, ha => by simp; omega
  | y :: l, a, h, hx, ha => by
    have h1 := List.pairwise_cons.1 h
    have h2 := hx y (List.mem_cons_self ..)
    have h3 := rise_len (l := l) (a := y + 1) h1.2 (fun x hm => ⟨by have := h1.1 x hm; omega, (hx x (List.mem_cons_of_mem _ hm)).2⟩) (by omega)
    rw [List.length_cons]
    omega
theorem RisL.len {l : List Int} (h : RisL l) : l.length ≤ 12 := by
  have := rise_len (a := 0) h.1 h.2 (by omega)
  omega
theorem RisL.nil : RisL [] := ⟨List.Pairwise.nil, fun _ h => absurd h List.not_mem_nil⟩
theorem yesV_mem {yes : List Int} {who z : Int} {is : Bool} : z ∈ yesV yes who is ↔ z ∈ yes ∨ (is = true ∧ okWho who = true ∧ z = who) := by
  unfold yesV
  by_cases h : (is && okWho who && !yes.contains who) = true
  · rw [if_pos h, insL_mem]
    simp only [Bool.and_eq_true, Bool.not_eq_true'] at h
    constructor
    · rintro (h1 | h1)
      · exact .inr ⟨h.1.1, h.1.2, h1⟩
      · exact .inl h1
    · rintro (h1 | h1)
      · exact .inr h1
      · exact .inl h1.2.2
  · rw [if_neg h]
    constructor
    · exact .inl
    · rintro (h1 | ⟨h1, h2, rfl⟩)
      · exact h1
      · rw [h1, h2] at h
        simpa using h
theorem RisL.vote {yes : List Int} (h : RisL yes) (who : Int) (is : Bool) : RisL (yesV yes who is) := by
  refine ⟨?_, fun x hx => ?_⟩
  · unfold yesV
    split
    · rename_i h1
      simp only [Bool.and_eq_true, Bool.not_eq_true'] at h1
      refine insL_rise h.1 fun hm => ?_
      rw [← List.contains_iff_mem, h1.2] at hm
      cases hm
    · exact h.1
  · rcases yesV_mem.1 hx with h1 | ⟨_, h1, rfl⟩
    · exact h.2 x h1
    · unfold okWho at h1
      simp at h1
      exact h1
theorem rise_ext : ∀ {l m : List Int}, l.Pairwise (· < ·) → m.Pairwise (· < ·) → (∀ x, x ∈ l ↔ x ∈ m) → l = m
  | [], [], _, _, _ => rfl
  | [], y :: m, _, _, h => absurd ((h y).2 (List.mem_cons_self ..)) List.not_mem_nil
  | x :: l, [], _, _, h => absurd ((h x).1 (List.mem_cons_self ..)) List.not_mem_nil
  | x :: l, y :: m, hl, hm, h => by
    have h1 := List.pairwise_cons.1 hl
    have h2 := List.pairwise_cons.1 hm
    have e : x = y := by
      rcases List.mem_cons.1 ((h x).1 (List.mem_cons_self ..)) with e | hx
      · exact e
      · rcases List.mem_cons.1 ((h y).2 (List.mem_cons_self ..)) with e | hy
        · exact e.symm
        · have := h1.1 y hy
          have := h2.1 x hx
          omega
    subst e
    congr 1
    refine rise_ext h1.2 h2.2 fun z => ⟨fun hz => ?_, fun hz => ?_⟩
    · rcases List.mem_cons.1 ((h z).1 (List.mem_cons_of_mem _ hz)) with e | h3
      · have := h1.1 z hz
        omega
      · exact h3
    · rcases List.mem_cons.1 ((h z).2 (List.mem_cons_of_mem _ hz)) with e | h3
      · have := h2.1 z hz
        omega
      · exact h3
/-- Votes for it, one after the other. -/
def foldY (l : List Int) : List Int := l.foldl (fun y x => yesV y x true) []
theorem foldY_next (l : List Int) (x : Int) : foldY (l ++ [x]) = yesV (foldY l) x true := by simp [foldY]
theorem foldY_rise (l : List Int) : RisL (foldY l) := by
  unfold foldY
  suffices h : ∀ (l a : List Int), RisL a → RisL (l.foldl (fun y x => yesV y x true) a) from h l [] RisL.nil
  intro l
  induction l with
  | nil => exact fun a h => h
  | cons x l ih => exact fun a h => ih _ (h.vote x true)
theorem foldY_mem (l : List Int) (z : Int) : z ∈ foldY l ↔ z ∈ l ∧ okWho z = true := by
  unfold foldY
  suffices h : ∀ (l a : List Int), z ∈ l.foldl (fun y x => yesV y x true) a ↔ z ∈ a ∨ (z ∈ l ∧ okWho z = true) by
    rw [h]
    simp
  intro l
  induction l with
  | nil => intro a; simp
  | cons x l ih =>
    intro a
    rw [List.foldl_cons, ih, yesV_mem, List.mem_cons]
    constructor
    · rintro ((h | ⟨_, h, rfl⟩) | h)
      · exact .inl h
      · exact .inr ⟨.inl rfl, h⟩
      · exact .inr ⟨.inr h.1, h.2⟩
    · rintro (h | ⟨rfl | h, h2⟩)
      · exact .inl (.inl h)
      · exact .inl (.inr ⟨rfl, h2, rfl⟩)
      · exact .inr ⟨h, h2⟩
theorem foldY_turn (l m : List Int) (h : ∀ x, x ∈ l ↔ x ∈ m) : foldY l = foldY m :=
  rise_ext (foldY_rise l).1 (foldY_rise m).1 fun z => by rw [foldY_mem, foldY_mem, h z]
/-- May they be? -/
def rightV (l : List Int) : Bool := decide (l.Pairwise (· < ·)) && l.all okWho
theorem rightV_iff {l : List Int} : rightV l = true ↔ RisL l := by
  unfold rightV RisL okWho
  simp
end Go.Proofs.YtfjaibaidpbppaaGreatDoor

namespace Go.Proofs.YtfjaibaidpbppaaGreatDoor
open Go.RowKit

section
variable {P : Program} (w : World)
/-- append of a list that may be nil onto a row of the call's own. -/
theorem wpList_append_opt {ops : Array Oper} {rest : List Oper} {o : Oper} {a : Act} {Q : Exit → Act → World → Prop} (hgd : o.guard = none) (s x : Operand) (t : TypeId)
    (ho : o.op = .call { callee := .builtin .append, args := #[s, x], argTypes := #[t, t] })
    (base : Nat) (e : TypeId) (i : TypeInfo) (z : Value) (size bytes : Nat) (ht : P.underlying t = some (.slice e)) (hi : P.info? e = some i) (hz : i.zero = some z)
    (hsize : i.size = size) (hby : i.bytes = bytes) (hzs : z.cells.size = size) (hsz : 0 < size)
    (v : Value) (n : Nat) (xs : List Value) (hs : a.eval s = v) (hown : w.ownsRow base e size v n xs)
    (A : Option Addr) (m c : Nat) (news : List Value) (hx : a.eval x = .slice A m c) (hA : A = none → m = 0 ∧ c = 0) (hl : news.length = m * size) (hnews : ∀ ad, A = some ad → ∀ j u, news[j]? = some u → w.cell? (ad.add j) = some u)
    (h1 : ∀ u ∈ news, u.oneCell' = true) (h63 : n + m ≤ maxLen) (hbytes : (n + m) * bytes ≤ 140737488355328) (hbase : base ≤ w.heap.size)
    (h : ∀ v' w', w'.ownsRow base e size v' (n + m) (xs ++ news) → w.grownBy w' v.ownBlock → wpList P ops Q rest (a.put o.dst v') w') : wpList P ops Q (o :: rest) a w := by
  rcases A with _ | ad
  · obtain ⟨rfl, rfl⟩ := hA rfl
    obtain rfl : news = [] := List.eq_nil_of_length_eq_zero (by simpa using hl)
    exact wpList_append_own_none hgd s x t ho base e i size ht hi v n xs hs hown hx (h v w (by simpa using hown) (World.grownBy.refl w _))
  · exact wpList_append_own w hgd s x t ho base e i z size bytes ht hi hz hsize hby hzs hsz v n xs hs hown ad m c news hx hl (hnews ad rfl) h1 h63 hbytes hbase (fun v' w' h2 h3 _ => h v' w' h2 h3)
end

/-- A list of numbers stands at A; nil: it is empty. -/
structure IntsC (w : World) (A : Option Addr) (c : Nat) (l : List Int) : Prop where
  at_ : IntsL w A l
  cap : l.length ≤ c
  nil : A = none → l = [] ∧ c = 0
section
variable {w w' : World} {A : Option Addr} {c : Nat} {l : List Int}
theorem IntsC.later (h : IntsC w A c l) (hb : Below w.heap.size w w') : IntsC w' A c l := ⟨h.at_.later hb, h.cap, h.nil⟩
theorem IntsC.keep (h : IntsC w A c l) (hk : ∀ a v, w.cell? a = some v → w'.cell? a = some v) : IntsC w' A c l := ⟨fun hn => by
  obtain ⟨ad, e, hc⟩ := h.at_ hn
  exact ⟨ad, e, fun i hi => hk _ _ (hc i hi)⟩, h.cap, h.nil⟩
theorem IntsC.none_ (w : World) : IntsC w none 0 [] := ⟨fun h => absurd h (Nat.lt_irrefl _), Nat.le_refl _, fun _ => ⟨rfl, rfl⟩⟩
theorem IntsC.opt (h : IntsC w A c l) : ∀ ad, A = some ad → ∀ j u, (l.map (Value.int .i64))[j]? = some u → w.cell? (ad.add j) = some u := by
  intro ad e j u hu
  rw [List.getElem?_map, Option.map_eq_some_iff] at hu
  obtain ⟨z, hz, rfl⟩ := hu
  have hj := (List.getElem?_eq_some_iff.1 hz).1
  obtain ⟨bd, e2, hc⟩ := h.at_ (by omega)
  rw [e] at e2
  obtain rfl := Option.some.inj e2
  rw [hc j hj, List.getD_eq_getElem?_getD, hz]
  rfl
theorem IntsC.zero (h : IntsC w A c l) : A = none → l.length = 0 ∧ c = 0 := fun e => by
  obtain ⟨h1, h2⟩ := h.nil e
  exact ⟨by rw [h1]; rfl, h2⟩
theorem IntsC.get (h : IntsC w A c l) {i : Nat} (hi : i < l.length) : ∃ ad x, A = some ad ∧ l[i]? = some x ∧ w.cell? (ad.add i) = some (.int .i64 x) := by
  obtain ⟨ad, e, hc⟩ := h.at_.at_ hi
  refine ⟨ad, l[i], e, List.getElem?_eq_getElem hi, ?_⟩
  rw [hc, List.getD_eq_getElem?_getD, List.getElem?_eq_getElem hi]
  rfl
end
theorem intsC_of_own {w : World} {base : Nat} {v : Value} {n : Nat} {zs : List Int} (h : w.ownsRow base 3 1 v n (zs.map (Value.int .i64))) : ∃ A c, v = .slice A zs.length c ∧ IntsC w A c zs ∧ ∀ ad, A = some ad → base ≤ ad.block := by
  have hl : zs.length = n := by simpa using h.1
  subst hl
  rcases h.2 with ⟨rfl, h0⟩ | ⟨g, cap, cur, rfl, hb, _, hc, _⟩
  · have e : zs = [] := List.eq_nil_of_length_eq_zero h0
    subst e
    exact ⟨none, 0, rfl, IntsC.none_ w, fun _ h => by cases h⟩
  · refine ⟨_, cap, rfl, ⟨fun _ => ⟨_, rfl, fun i hi => h.cells (g := g) rfl i _ ?_⟩, hc, fun h => by cases h⟩, fun ad e => by obtain rfl := Option.some.inj e; exact hb⟩
    simp [List.getElem?_map, List.getElem?_eq_getElem hi]
section
variable {w : World} {A B : Option Addr} {c d : Nat}
theorem insL_cons (y : Int) (l : List Int) (x : Int) : insL (y :: l) x = if x < y then x :: y :: l else y :: insL l x := rfl
theorem insL_on {x : Int} : ∀ {l m : List Int}, (∀ y ∈ l, ¬ x < y) → insL (l ++ m) x = l ++ insL m x
  | [], _, _ => rfl
  | y :: l, m, h => by
    rw [List.cons_append, insL_cons, if_neg (h y (List.mem_cons_self ..)), insL_on (fun z hz => h z (List.mem_cons_of_mem _ hz)), List.cons_append]
theorem insL_off {x : Int} : ∀ {l m : List Int}, (∃ y ∈ l, x < y) → insL (l ++ m) x = insL l x ++ m
  | [], _, h => by obtain ⟨y, hy, _⟩ := h; cases hy
  | y :: l, m, h => by
    rw [List.cons_append, insL_cons, insL_cons]
    by_cases hy : x < y
    · rw [if_pos hy, if_pos hy]
      rfl
    · rw [if_neg hy, if_neg hy, insL_off (l := l) (m := m) (by
        obtain ⟨z, hz, h2⟩ := h
        rcases List.mem_cons.1 hz with rfl | h3
        · exact absurd h2 hy
        · exact ⟨z, h3, h2⟩)]
      rfl
/-- Where the document's loop is: what is put down of the first k, and whether x is there already. -/
def InsK (yes : List Int) (x : Int) (k : Nat) (b : Bool) (out : List Int) : Prop := (b = true ∧ out = insL (yes.take k) x ∧ ∃ y ∈ yes.take k, x < y) ∨ (b = false ∧ out = yes.take k ∧ ∀ y ∈ yes.take k, ¬ x < y)
theorem InsK.len {yes out : List Int} {x : Int} {k : Nat} {b : Bool} (h : InsK yes x k b out) : out.length ≤ yes.length + 1 := by
  rcases h with ⟨_, rfl, _⟩ | ⟨_, rfl, _⟩
  · rw [insL_len, List.length_take]; omega
  · rw [List.length_take]; omega
theorem insK_done {yes out : List Int} {x y : Int} {k : Nat} (h : InsK yes x k true out) (hy : yes[k]? = some y) : InsK yes x (k + 1) true (out ++ [y]) := by
  rcases h with ⟨_, rfl, z, hz, hlt⟩ | ⟨h, _⟩
  · refine .inl ⟨rfl, ?_, z, ?_, hlt⟩
    · rw [List.take_add_one, hy]
      exact (insL_off ⟨z, hz, hlt⟩).symm
    · rw [List.take_add_one]
      exact List.mem_append_left _ hz
  · cases h
theorem insK_here {yes out : List Int} {x y : Int} {k : Nat} (h : InsK yes x k false out) (hy : yes[k]? = some y) (hlt : x < y) : InsK yes x (k + 1) true (out ++ [x] ++ [y]) := by
  rcases h with ⟨h, _⟩ | ⟨_, rfl, hn⟩
  · cases h
  · refine .inl ⟨rfl, ?_, y, ?_, hlt⟩
    · rw [List.take_add_one, hy, List.append_assoc]
      show _ = insL (yes.take k ++ [y]) x
      rw [insL_on hn, insL_cons, if_pos hlt]
      rfl
    · rw [List.take_add_one, hy]
      exact List.mem_append_right _ (List.mem_singleton.2 rfl)
theorem insK_not {yes out : List Int} {x y : Int} {k : Nat} (h : InsK yes x k false out) (hy : yes[k]? = some y) (hlt : ¬ x < y) : InsK yes x (k + 1) false (out ++ [y]) := by
  rcases h with ⟨h, _⟩ | ⟨_, rfl, hn⟩
  · cases h
  · refine .inr ⟨rfl, by rw [List.take_add_one, hy]; rfl, fun z hz => ?_⟩
    rw [List.take_add_one, hy] at hz
    rcases List.mem_append.1 hz with h | h
    · exact hn z h
    · obtain rfl : z = y := by simpa using h
      exact hlt
theorem insK_end {yes out : List Int} {x : Int} {b : Bool} (h : InsK yes x yes.length b out) : (if b then out else out ++ [x]) = insL yes x := by
  rcases h with ⟨rfl, rfl, _⟩ | ⟨rfl, rfl, hn⟩
  · simp
  · rw [List.take_length] at hn ⊢
    have := insL_on (m := []) hn
    rw [List.append_nil] at this
    rw [this]
    rfl
/-- What a vote answers. -/
def VtOut (w : World) (yes : List Int) (no may : Bool) (e : Ending) (w' : World) : Prop := ∃ B b, e = .returned (.tuple #[.slice B yes.length b, .bool no, .bool may]) ∧ IntsC w' B b yes ∧ Below w.heap.size w w'
end
end Go.Proofs.YtfjaibaidpbppaaGreatDoor

namespace Go.Proofs.YtfjaibaidpbppaaGreatDoor
open Go.RowKit

/-- A number from lo to hi is read of S: v, and S' is left; or it stops (b'). -/
structure Rd1 (S : ByteArray) (b : Bool) (lo hi v : Int) (S' : ByteArray) (b' : Bool) : Prop where
  bad : b' = true → v = 0
  yes : b' = false → b = false ∧ lo ≤ v ∧ v ≤ hi ∧ S = numX v ++ S'
  full : ∀ n T, b = false → lo ≤ n → n ≤ hi → -9223372036854775808 ≤ n → n ≤ 9223372036854775807 → S = numX n ++ T → b' = false
  size : S'.size ≤ S.size
theorem rd1_of {S : ByteArray} {b : Bool} {lo hi : Int} {r : Option (Int × List UInt8)} (hr : Takes (bl S) lo hi r) : Rd1 S b lo hi (iV b r) (iS S b r) (iB b r) := by
  refine ⟨fun h => ?_, fun h => ?_, fun n T hb h1 h2 h3 h4 h5 => ?_, iS_size hr⟩
  · unfold iB at h
    unfold iV
    cases b with
    | true => rfl
    | false =>
      cases r with
      | none => rfl
      | some q => simp at h
  · unfold iB at h
    cases b with
    | true => simp at h
    | false =>
      rcases hr with ⟨n, rest, a1, a2, a3, a4, a5, rfl⟩ | ⟨_, rfl⟩
      · refine ⟨rfl, a4, a5, ?_⟩
        apply bl_inj
        rw [bl_append, bl_numX]
        show bl S = numT n ++ bl (ofL rest)
        rw [bl_ofL]
        exact a3
      · simp at h
  · subst hb
    have ht : Takes (bl S) lo hi (some (n, bl T)) := .inl ⟨n, bl T, h3, h4, by rw [h5, bl_append, bl_numX], h1, h2, rfl⟩
    rw [takes_one hr ht]
    rfl
theorem Rd1.same {S S' : ByteArray} {b b' : Bool} {lo hi v n : Int} {T : ByteArray} (h : Rd1 S b lo hi v S' b') (hb : b' = false) (hS : S = numX n ++ T) : v = n ∧ S' = T := by
  have h1 := (h.yes hb).2.2.2
  have h2 := congrArg bl (h1.symm.trans hS)
  rw [bl_append, bl_append, bl_numX, bl_numX] at h2
  obtain ⟨e, h3⟩ := numT_front h2
  exact ⟨e, bl_inj h3⟩
theorem int_step {w : World} {R : Nat} {S : ByteArray} {b : Bool} (h : RdAt w R S b) (hV : VarsAt w) (hS : S.size ≤ 1000000) (lo hi : Int) :
    Calls Tryz.prog 52 #[.pointer (some ⟨R, 0, none⟩), .int .i64 lo, .int .i64 hi] w fun e w' => ∃ v S' b', e = .returned (.int .i64 v) ∧ RdAt w' R S' b' ∧ Only1 R w w' ∧ Rd1 S b lo hi v S' b' := by
  obtain ⟨r, hr⟩ := takes_some (bl S) lo hi
  refine (int_is h hV lo hi r hr (by omega)).mono ?_
  rintro e w' ⟨rfl, h1, h2⟩
  exact ⟨_, _, _, rfl, h1, h2, rd1_of hr⟩
end Go.Proofs.YtfjaibaidpbppaaGreatDoor
