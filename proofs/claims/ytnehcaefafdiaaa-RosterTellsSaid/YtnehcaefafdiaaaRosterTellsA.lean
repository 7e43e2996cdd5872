/-
  The law RosterTells, walked where the lists are too long, or the roster is refused; what is held where it is not. No conditions but how the arguments lie in memory.
-/
import Derived.Test.YtnehcaefafdiaaaRosterN
import Derived.WalkKit
import Derived.OwnWalk
import Derived.Laws.OwnMore
import Derived.Laws.AppendOwnNone
namespace Go.Proofs.Ytnehcaefafdiaaa
open Go.RowKit

section
variable {P : Program} (w : World)
/-- append of a list that may be nil onto a row of the call's own. -/
theorem wpList_append_opt {ops : Array Oper} {rest : List Oper} {o : Oper} {a : Act} {Q : Exit → Act → World → Prop} (hgd : o.guard = none) (s x : Operand) (t : TypeId)
    (ho : o.op = .call { callee := .builtin .append, args := #[s, x], argTypes := #[t, t] })
    (base : Nat) (e : TypeId) (i : TypeInfo) (z : Value) (size bytes : Nat) (ht : P.underlying t = some (.slice e)) (hi : P.info? e = some i) (hz : i.zero = some z)
    (hsize : i.size = size) (hby : i.bytes = bytes) (hzs : z.cells.size = size) (hsz : 0 < size)
    (v : Value) (n : Nat) (xs : List Value) (hs : a.eval s = v) (hown : w.ownsRow base e size v n xs)
    (A : Option Addr) (m c : Nat) (news : List Value) (hx : a.eval x = .slice A m c) (hA : A = none → m = 0 ∧ c = 0) (hl : news.length = m * size) (hnews : ∀ ad, A = some ad → ∀ j u, news[j]? = some u → w.cell? (ad.add j) = some u)
    (h1 : ∀ u ∈ news, u.oneCell' = true) (h63 : n + m ≤ maxLen) (hbytes : (n + m) * bytes ≤ 140737488355328) (hbase : base ≤ w.heap.size)
    (h : ∀ v' w', w'.ownsRow base e size v' (n + m) (xs ++ news) → w.grownBy w' v.ownBlock → wpList P ops Q rest (a.put o.dst v') w') : wpList P ops Q (o :: rest) a w := by
  rcases A with _ | ad
  · obtain ⟨rfl, rfl⟩ := hA rfl
    obtain rfl : news = [] := List.eq_nil_of_length_eq_zero (by simpa using hl)
    exact wpList_append_own_none hgd s x t ho base e i size ht hi v n xs hs hown hx (h v w (by simpa using hown) (World.grownBy.refl w _))
  · exact wpList_append_own w hgd s x t ho base e i z size bytes ht hi hz hsize hby hzs hsz v n xs hs hown ad m c news hx hl (hnews ad rfl) h1 h63 hbytes hbase (fun v' w' h2 h3 _ => h v' w' h2 h3)
end

theorem LabsAt.opt {w : World} {A : Option Addr} {n : Nat} {lv st : Nat → Int} (h : LabsAt w A n lv st) : ∀ ad, A = some ad → ∀ j u, (labCells lv st n)[j]? = some u → w.cell? (ad.add j) = some u := by
  rintro ad rfl
  exact h.cells
theorem PepsAt.opt {w : World} {A : Option Addr} {n : Nat} {pt al au : Nat → Int} (h : PepsAt w A n pt al au) : ∀ ad, A = some ad → ∀ j u, (pepCells pt al au n)[j]? = some u → w.cell? (ad.add j) = some u := by
  rintro ad rfl
  exact h.cells

/-- What is held of the arguments. -/
def ArgS (w : World) (A B : Option Addr) (n m : Nat) (lv st pt al au : Nat → Int) (l s : Int) (W : World) : Prop :=
  LabsAt W A n lv st ∧ PepsAt W B m pt al au ∧ W.cell? ⟨w.heap.size, 0, none⟩ = some (.int .i64 l) ∧ W.cell? ⟨w.heap.size, 1, none⟩ = some (.int .u16 s) ∧ Below w.heap.size w W
section
variable {A B : Option Addr} {n m c d : Nat} {lv st pt al au : Nat → Int} {l s : Int} {w : World}
theorem ArgS.keep {v v' : World} (h : ArgS w A B n m lv st pt al au l s v) (hb : Below v.heap.size v v') : ArgS w A B n m lv st pt al au l s v' :=
  let ⟨a, b, c, d, e⟩ := h
  ⟨a.later hb, b.later hb, cell_later hb c, cell_later hb d, below_step e hb⟩
theorem ArgS.alloc {v : World} (h : ArgS w A B n m lv st pt al au l s v) (o : Obj) : ArgS w A B n m lv st pt al au l s (v.alloc o) :=
  let ⟨a, b, c, d, e⟩ := h
  ⟨a.alloc o, b.alloc o, cell_alloc c, cell_alloc d, e.alloc e.size o⟩
theorem ArgS.first (hl : LabsAt w A n lv st) (hp : PepsAt w B m pt al au) : ArgS w A B n m lv st pt al au l s (w.alloc (.cells #[.int .i64 l, .int .u16 s] 26)) :=
  ⟨hl.alloc _, hp.alloc _, by simp [go_sem], by simp [go_sem], (Below.refl _ _).alloc (Nat.le_refl _) _⟩

set_option maxHeartbeats 1000000 in
set_option maxRecDepth 100000 in
theorem tells_long (h : 50 < n ∨ 50 < m) (who part : Int) :
    Calls Try.prog 3 #[.slice A n c, .slice B m d, .int .i64 who, .int .i64 part, .agg #[.int .i64 l, .int .u16 s]] w fun e w' => e = .returned (.bool true) ∧ Below w.heap.size w w' := by
  by_cases hn : 50 < n
  · clear h
    go_enter Try.func3, Try.ntmps3
    go_wp2_with fail
    refine (awake_is _).mono ?_
    rintro e w1 ⟨rfl, hb1⟩
    have hB := below_step ((Below.refl w.heap.size w).alloc (Nat.le_refl _) (.cells #[.int .i64 l, .int .u16 s] 26)) hb1
    clear hb1
    go_wp2_with fail
    refine (awake_is _).mono ?_
    rintro e w2 ⟨rfl, hb2⟩
    replace hB := below_step hB hb2
    clear hb2
    go_wp2_with fail
    go_ret
    exact ⟨rfl, hB⟩
  · have hm : 50 < m := by omega
    clear h
    go_enter Try.func3, Try.ntmps3
    go_wp2_with fail
    refine (awake_is _).mono ?_
    rintro e w1 ⟨rfl, hb1⟩
    have hB := below_step ((Below.refl w.heap.size w).alloc (Nat.le_refl _) (.cells #[.int .i64 l, .int .u16 s] 26)) hb1
    clear hb1
    go_wp2_with fail
    refine (awake_is _).mono ?_
    rintro e w2 ⟨rfl, hb2⟩
    replace hB := below_step hB hb2
    clear hb2
    go_wp2_with fail
    go_ret
    exact ⟨rfl, hB⟩

theorem bel_app {w w' : World} {o : Obj} {k c : Nat} (hg : (w.alloc o).grownBy w' (Value.slice (some ⟨w.heap.size, 0, none⟩) k c).ownBlock) : Below w.heap.size w w' :=
  ((Below.refl _ _).alloc (Nat.le_refl _) _).grown hg (by simp) (by simp [Value.ownBlock])

set_option maxHeartbeats 1000000 in
set_option maxRecDepth 100000 in
theorem tells_bad (hl : LabsAt w A n lv st) (hp : PepsAt w B m pt al au) (ha : A = none → n = 0 ∧ c = 0) (hb : B = none → m = 0 ∧ d = 0) (hn : n ≤ 50) (hm : m ≤ 50) (hf : faultV n m lv st pt al ≠ 0) (who part : Int) :
    Calls Try.prog 3 #[.slice A n c, .slice B m d, .int .i64 who, .int .i64 part, .agg #[.int .i64 l, .int .u16 s]] w fun e w' => e = .returned (.bool true) ∧ Below w.heap.size w w' := by
  obtain ⟨i0, hi0, hz0, hz1, hz2⟩ := info_parts info_lab
  obtain ⟨j0, hj0, hy0, hy1, hy2⟩ := info_parts info_pep
  have HA := Lib.hid (ArgS.first (l := l) (s := s) hl hp)
  have nA := Lib.hid ha
  have nB := Lib.hid hb
  have n50 : ¬ 50 < n := by omega
  have m50 : ¬ 50 < m := by omega
  clear hl hp ha hb
  go_enter Try.func3, Try.ntmps3
  go_wp2_with fail
  refine (awake_is _).mono ?_
  rintro e w1 ⟨rfl, hb1⟩
  have H1 := Lib.hid (HA.out.keep hb1)
  clear hb1 HA
  go_wp2_with (first
    | (at_builtin; refine wpList_append_opt _ rfl (.tmp 32) (.tmp 33) 22 rfl w1.heap.size 26 i0 _ 2 16 Try.underlying22 hi0 hz0 hz1 hz2 rfl (by omega) (.slice (some ⟨w1.heap.size, 0, none⟩) 0 0) 0 [] rfl (World.ownsRow_lit w1 #[] 0 (Nat.le_refl _) (by unfold maxLen; omega) rfl) A n c (labCells lv st n) rfl nA.out (labCells_len _ _ _) (H1.out.alloc _).1.opt (labCells_one _ _ _) (by unfold maxLen; omega) (by omega) (by simp) ?_; intro v2 w2 hown2 hg2; have H2 := Lib.hid (H1.out.keep (bel_app hg2)))
    | (at_builtin; refine wpList_append_opt _ rfl (.tmp 35) (.tmp 36) 23 rfl w2.heap.size 35 j0 _ 3 24 Try.underlying23 hj0 hy0 hy1 hy2 rfl (by omega) (.slice (some ⟨w2.heap.size, 0, none⟩) 0 0) 0 [] rfl (World.ownsRow_lit w2 #[] 0 (Nat.le_refl _) (by unfold maxLen; omega) rfl) B m d (pepCells pt al au m) rfl nB.out (pepCells_len _ _ _ _) (H2.out.alloc _).2.1.opt (pepCells_one _ _ _ _) (by unfold maxLen; omega) (by omega) (by simp) ?_; intro v3 w3 hown3 hg3))
  have ho2 : w3.ownsRow w1.heap.size 26 2 v2 n (labCells lv st n) := by simpa using own_later hown2 (bel_app hg3)
  have ho3 : w3.ownsRow w2.heap.size 35 3 v3 m (pepCells pt al au m) := by simpa using hown3
  have H3 := Lib.hid (H2.out.keep (bel_app hg3))
  obtain ⟨A2, c2, rfl, hc2, hl2⟩ := labs_of_own ho2
  obtain ⟨B3, d3, rfl, hd3, hp3⟩ := peps_of_own ho3
  clear ho2 ho3 hown2 hown3 hg2 hg3 H1 H2
  refine (new_no hl2 hp3 hc2 hf).mono ?_
  rintro e w4 ⟨rfl, hb4⟩
  have H4 := Lib.hid (H3.out.keep hb4)
  clear hb4 H3 hl2 hp3
  have hr := (refnew_is (c := c) (d := d) H4.out.1 H4.out.2.1)
  generalize faultV n m lv st pt al = f at hf hr ⊢
  have hne : (f != 0) = true := by simpa using hf
  have HR := Lib.hid hr
  clear hr hf
  go_wp2_with fail
  refine HR.out.mono ?_
  rintro e w5 ⟨rfl, hb5⟩
  have hB := below_step H4.out.2.2.2.2 hb5
  clear hb5
  go_wp2_with fail
  go_ret
  exact ⟨rfl, hB⟩

end
end Go.Proofs.Ytnehcaefafdiaaa
