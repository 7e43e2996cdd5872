/-
  Lists of numbers that may be nil, in memory; the document's In, Same and Vote. No conditions but how the lists lie.
-/
import Derived.Test.YthmjeibanofliaaDoorGtP
import Derived.Lib.AppendIntMem
import Derived.Deep.RegionLaw
import Derived.OwnWalk
import Derived.Laws.OwnMore
import Derived.Laws.AppendOwnNone
import Derived.Deep.QuietTactic
import Derived.BigQuiet
namespace Go.Proofs.YthmjeibanofliaaDoor
open Go.RowKit

section
variable {P : Program} (w : World)
/-- append of a list that may be nil onto a row of the call's own. -/
theorem wpList_append_opt {ops : Array Oper} {rest : List Oper} {o : Oper} {a : Act} {Q : Exit → Act → World → Prop} (hgd : o.guard = none) (s x : Operand) (t : TypeId)
    (ho : o.op = .call { callee := .builtin .append, args := #[s, x], argTypes := #[t, t] })
    (base : Nat) (e : TypeId) (i : TypeInfo) (z : Value) (size bytes : Nat) (ht : P.underlying t = some (.slice e)) (hi : P.info? e = some i) (hz : i.zero = some z)
    (hsize : i.size = size) (hby : i.bytes = bytes) (hzs : z.cells.size = size) (hsz : 0 < size)
    (v : Value) (n : Nat) (xs : List Value) (hs : a.eval s = v) (hown : w.ownsRow base e size v n xs)
    (A : Option Addr) (m c : Nat) (news : List Value) (hx : a.eval x = .slice A m c) (hA : A = none → m = 0 ∧ c = 0) (hl : news.length = m * size) (hnews : ∀ ad, A = some ad → ∀ j u, news[j]? = some u → w.cell? (ad.add j) = some u)
    (h1 : ∀ u ∈ news, u.oneCell' = true) (h63 : n + m ≤ maxLen) (hbytes : (n + m) * bytes ≤ 140737488355328) (hbase : base ≤ w.heap.size)
    (h : ∀ v' w', w'.ownsRow base e size v' (n + m) (xs ++ news) → w.grownBy w' v.ownBlock → wpList P ops Q rest (a.put o.dst v') w') : wpList P ops Q (o :: rest) a w := by
  rcases A with _ | ad
  · obtain ⟨rfl, rfl⟩ := hA rfl
    obtain rfl : news = [] := List.eq_nil_of_length_eq_zero (by simpa using hl)
    exact wpList_append_own_none hgd s x t ho base e i size ht hi v n xs hs hown hx (h v w (by simpa using hown) (World.grownBy.refl w _))
  · exact wpList_append_own w hgd s x t ho base e i z size bytes ht hi hz hsize hby hzs hsz v n xs hs hown ad m c news hx hl (hnews ad rfl) h1 h63 hbytes hbase (fun v' w' h2 h3 _ => h v' w' h2 h3)
end

/-- A list of numbers stands at A; nil: it is empty. -/
structure IntsC (w : World) (A : Option Addr) (c : Nat) (l : List Int) : Prop where
  at_ : IntsL w A l
  cap : l.length ≤ c
  nil : A = none → l = [] ∧ c = 0
section
variable {w w' : World} {A : Option Addr} {c : Nat} {l : List Int}
theorem IntsC.later (h : IntsC w A c l) (hb : Below w.heap.size w w') : IntsC w' A c l := ⟨h.at_.later hb, h.cap, h.nil⟩
theorem IntsC.keep (h : IntsC w A c l) (hk : ∀ a v, w.cell? a = some v → w'.cell? a = some v) : IntsC w' A c l := ⟨fun hn => by
  obtain ⟨ad, e, hc⟩ := h.at_ hn
  exact ⟨ad, e, fun i hi => hk _ _ (hc i hi)⟩, h.cap, h.nil⟩
theorem IntsC.none_ (w : World) : IntsC w none 0 [] := ⟨fun h => absurd h (Nat.lt_irrefl _), Nat.le_refl _, fun _ => ⟨rfl, rfl⟩⟩
theorem IntsC.opt (h : IntsC w A c l) : ∀ ad, A = some ad → ∀ j u, (l.map (Value.int .i64))[j]? = some u → w.cell? (ad.add j) = some u := by
  intro ad e j u hu
  rw [List.getElem?_map, Option.map_eq_some_iff] at hu
  obtain ⟨z, hz, rfl⟩ := hu
  have hj := (List.getElem?_eq_some_iff.1 hz).1
  obtain ⟨bd, e2, hc⟩ := h.at_ (by omega)
  rw [e] at e2
  obtain rfl := Option.some.inj e2
  rw [hc j hj, List.getD_eq_getElem?_getD, hz]
  rfl
theorem IntsC.zero (h : IntsC w A c l) : A = none → l.length = 0 ∧ c = 0 := fun e => by
  obtain ⟨h1, h2⟩ := h.nil e
  exact ⟨by rw [h1]; rfl, h2⟩
theorem IntsC.get (h : IntsC w A c l) {i : Nat} (hi : i < l.length) : ∃ ad x, A = some ad ∧ l[i]? = some x ∧ w.cell? (ad.add i) = some (.int .i64 x) := by
  obtain ⟨ad, e, hc⟩ := h.at_.at_ hi
  refine ⟨ad, l[i], e, List.getElem?_eq_getElem hi, ?_⟩
  rw [hc, List.getD_eq_getElem?_getD, List.getElem?_eq_getElem hi]
  rfl
end
theorem intsC_of_own {w : World} {base : Nat} {v : Value} {n : Nat} {zs : List Int} (h : w.ownsRow base 3 1 v n (zs.map (Value.int .i64))) : ∃ A c, v = .slice A zs.length c ∧ IntsC w A c zs ∧ ∀ ad, A = some ad → base ≤ ad.block := by
  have hl : zs.length = n := by simpa using h.1
  subst hl
  rcases h.2 with ⟨rfl, h0⟩ | ⟨g, cap, cur, rfl, hb, _, hc, _⟩
  · have e : zs = [] := List.eq_nil_of_length_eq_zero h0
    subst e
    exact ⟨none, 0, rfl, IntsC.none_ w, fun _ h => by cases h⟩
  · refine ⟨_, cap, rfl, ⟨fun _ => ⟨_, rfl, fun i hi => h.cells (g := g) rfl i _ ?_⟩, hc, fun h => by cases h⟩, fun ad e => by obtain rfl := Option.some.inj e; exact hb⟩
    simp [List.getElem?_map, List.getElem?_eq_getElem hi]
section
variable {w : World} {A B : Option Addr} {c d : Nat}
set_option maxHeartbeats 1000000 in
set_option maxRecDepth 100000 in
theorem gsame_is {l : List Int} (ha : IntsC w A c l) (hb : IntsC w B d l) (hn : l.length ≤ 64) :
    Calls Tryd.prog 13 #[.slice A l.length c, .slice B l.length d] w fun e w' => e = .returned (.bool true) ∧ Below w.heap.size w w' := by
  have HA := Lib.hid ha
  have HB := Lib.hid hb
  clear ha hb
  go_enter Tryd.func13, Tryd.ntmps13
  go_wp2
  go_loopw [5] (fun i wr => ∃ k q : Nat, k ≤ l.length ∧ i = .int .i64 k ∧ wr = w.drewN q) (fun i _ => l.length - (intOf i).toNat)
  case atStart => exact ⟨0, 0, Nat.zero_le _, rfl, rfl⟩
  case round =>
    obtain ⟨k, q, hk, rfl, rfl⟩ := hrel
    by_cases hlt : k < l.length
    · obtain ⟨ad, x, rfl, hx, h0⟩ := HA.out.get hlt
      obtain ⟨bd, y, rfl, hy, h1⟩ := HB.out.get hlt
      obtain rfl := Option.some.inj (hx.symm.trans hy)
      have hc1 := HA.out.cap
      have hc2 := HB.out.cap
      clear hx hy
      go_wp2
      go_quiet (fail)
      go_wp2
      go_roundw
      case rel => exact ⟨k + 1, _, by omega, by go_num, rfl⟩
      case measure => simp [intOf]; omega
    · go_wp2
      go_ret
      exact ⟨rfl, Below.drewN_ (Below.refl _ _) _⟩
theorem insL_cons (y : Int) (l : List Int) (x : Int) : insL (y :: l) x = if x < y then x :: y :: l else y :: insL l x := rfl
theorem insL_on {x : Int} : ∀ {l m : List Int}, (∀ y ∈ l, ¬ x < y) → insL (l ++ m) x = l ++ insL m x
  | [], _, _ => rfl
  | y :: l, m, h => by
    rw [List.cons_append, insL_cons, if_neg (h y (List.mem_cons_self ..)), insL_on (fun z hz => h z (List.mem_cons_of_mem _ hz)), List.cons_append]
theorem insL_off {x : Int} : ∀ {l m : List Int}, (∃ y ∈ l, x < y) → insL (l ++ m) x = insL l x ++ m
  | [], _, h => by obtain ⟨y, hy, _⟩ := h; cases hy
  | y :: l, m, h => by
    rw [List.cons_append, insL_cons, insL_cons]
    by_cases hy : x < y
    · rw [if_pos hy, if_pos hy]
      rfl
    · rw [if_neg hy, if_neg hy, insL_off (l := l) (m := m) (by
        obtain ⟨z, hz, h2⟩ := h
        rcases List.mem_cons.1 hz with rfl | h3
        · exact absurd h2 hy
        · exact ⟨z, h3, h2⟩)]
      rfl
/-- Where the document's loop is: what is put down of the first k, and whether x is there already. -/
def InsK (yes : List Int) (x : Int) (k : Nat) (b : Bool) (out : List Int) : Prop := (b = true ∧ out = insL (yes.take k) x ∧ ∃ y ∈ yes.take k, x < y) ∨ (b = false ∧ out = yes.take k ∧ ∀ y ∈ yes.take k, ¬ x < y)
theorem InsK.len {yes out : List Int} {x : Int} {k : Nat} {b : Bool} (h : InsK yes x k b out) : out.length ≤ yes.length + 1 := by
  rcases h with ⟨_, rfl, _⟩ | ⟨_, rfl, _⟩
  · rw [insL_len, List.length_take]; omega
  · rw [List.length_take]; omega
theorem insK_done {yes out : List Int} {x y : Int} {k : Nat} (h : InsK yes x k true out) (hy : yes[k]? = some y) : InsK yes x (k + 1) true (out ++ [y]) := by
  rcases h with ⟨_, rfl, z, hz, hlt⟩ | ⟨h, _⟩
  · refine .inl ⟨rfl, ?_, z, ?_, hlt⟩
    · rw [List.take_add_one, hy]
      exact (insL_off ⟨z, hz, hlt⟩).symm
    · rw [List.take_add_one]
      exact List.mem_append_left _ hz
  · cases h
theorem insK_here {yes out : List Int} {x y : Int} {k : Nat} (h : InsK yes x k false out) (hy : yes[k]? = some y) (hlt : x < y) : InsK yes x (k + 1) true (out ++ [x] ++ [y]) := by
  rcases h with ⟨h, _⟩ | ⟨_, rfl, hn⟩
  · cases h
  · refine .inl ⟨rfl, ?_, y, ?_, hlt⟩
    · rw [List.take_add_one, hy, List.append_assoc]
      show _ = insL (yes.take k ++ [y]) x
      rw [insL_on hn, insL_cons, if_pos hlt]
      rfl
    · rw [List.take_add_one, hy]
      exact List.mem_append_right _ (List.mem_singleton.2 rfl)
theorem insK_not {yes out : List Int} {x y : Int} {k : Nat} (h : InsK yes x k false out) (hy : yes[k]? = some y) (hlt : ¬ x < y) : InsK yes x (k + 1) false (out ++ [y]) := by
  rcases h with ⟨h, _⟩ | ⟨_, rfl, hn⟩
  · cases h
  · refine .inr ⟨rfl, by rw [List.take_add_one, hy]; rfl, fun z hz => ?_⟩
    rw [List.take_add_one, hy] at hz
    rcases List.mem_append.1 hz with h | h
    · exact hn z h
    · obtain rfl : z = y := by simpa using h
      exact hlt
theorem insK_end {yes out : List Int} {x : Int} {b : Bool} (h : InsK yes x yes.length b out) : (if b then out else out ++ [x]) = insL yes x := by
  rcases h with ⟨rfl, rfl, _⟩ | ⟨rfl, rfl, hn⟩
  · simp
  · rw [List.take_length] at hn ⊢
    have := insL_on (m := []) hn
    rw [List.append_nil] at this
    rw [this]
    rfl
/-- What a vote answers. -/
def VtOut (w : World) (yes : List Int) (no may : Bool) (e : Ending) (w' : World) : Prop := ∃ B b, e = .returned (.tuple #[.slice B yes.length b, .bool no, .bool may]) ∧ IntsC w' B b yes ∧ Below w.heap.size w w'
end
end Go.Proofs.YthmjeibanofliaaDoor
