/-
  whole; slices.Chunk at two words, and what is asked of one that is gone over. No conditions but lengths. What the lines told so far, in memory; plain steps of lines and of their pairs. No conditions.
-/
import Derived.Test.YtcfnmjhelhdobaaGreatDoorMdF
import Derived.Test.YtcfnmjhelhdobaaGreatDoorLexI
import Derived.Test.YtcfnmjhelhdobaaGreatDoorRng2
import Derived.Test.YtcfnmjhelhdobaaGreatDoorManR
namespace Go.Proofs.YtcfnmjhelhdobaaGreatDoor
open Go.RowKit Go.Shelf

attribute [local go_sem] Oper.semAt_some

def wholeB (g : Bool) (seen : List ByteArray) : Bool := !g || (memB sTo seen && memB sNeed seen)
section
variable {w : World} {X M q : Nat} {g : Bool} {seen : List ByteArray} {x : LnP} {av : Value}
set_option maxHeartbeats 1000000 in
set_option maxRecDepth 100000 in
theorem whole_is (h : MLn w X M q (kindB g) seen x av) (r : Bool) (hr : r = wholeB g seen) : Calls Tryz.prog 62 #[.pointer (some ⟨X, 0, none⟩)] w fun e w' => e = .returned (.bool r) ∧ Below w.heap.size w w' := by
  have x0 := cellH h.row 0
  have x1 := cellH h.row 1
  simp [lmC] at x0 x1
  cases g with
  | false =>
    obtain rfl : r = true := hr
    clear h
    rw [show kindB false = sTask from rfl] at x0
    go_enter Tryz.func62, Tryz.ntmps62
    go_wp2_with fail
    go_ret
    exact ⟨rfl, Below.refl _ _⟩
  | true =>
    rw [show kindB true = sGate from rfl] at x0
    obtain ⟨m1, hm1⟩ : ∃ m, m = memB sTo seen := ⟨_, rfl⟩
    obtain ⟨m2, hm2⟩ : ∃ m, m = memB sNeed seen := ⟨_, rfl⟩
    rw [wholeB, ← hm1, ← hm2] at hr
    have h1 := has_is h.set sTo (by decide)
    rw [← hm1] at h1
    have h2 := fun (v : World) (hv : Below w.heap.size w v) => has_is (h.set.later hv) sNeed (by decide)
    rw [← hm2] at h2
    have HR := Lib.hid h.row
    have H1 := Lib.hid h1
    have H2 := Lib.hid h2
    clear h hm1 hm2 h1 h2
    go_enter Tryz.func62, Tryz.ntmps62
    go_wp2_with fail
    refine H1.out.mono ?_
    rintro e w1 ⟨rfl, hb1⟩
    have HB1 := Lib.hid hb1
    clear x0 x1
    have x1 := cellH (later_at hb1 HR.out) 1
    simp [lmC] at x1
    clear hb1
    cases m1 with
    | false =>
      obtain rfl : r = false := hr
      go_wp2_with fail
      go_ret
      exact ⟨rfl, HB1.out⟩
    | true =>
      have e : r = m2 := by rw [hr]; cases m2 <;> rfl
      clear hr
      subst e
      go_wp2_with fail
      refine (H2.out _ HB1.out).mono ?_
      rintro e w2 ⟨rfl, hb2⟩
      have HB2 := Lib.hid (below_step HB1.out hb2)
      clear hb2
      go_wp2_with fail
      go_ret
      exact ⟨rfl, HB2.out⟩
end
/-- The smaller one, kept whole in a walk. -/
def minM (x y : Int) : Int := if y < x then y else x
@[go_sem ↓] theorem run_minM {P : Program} (w : World) (ts : Array TypeId) (t : TypeId) (k k' : IntKind) (x y : Int) : (Builtin.min_ ts t #[.int k x, .int k' y]).run P w = .ok (.int k (minM x y)) w := run_min_int2 w ts t k k' x y
set_option maxHeartbeats 1000000 in
set_option maxRecDepth 100000 in
theorem chunk_is (w : World) (A : Option Addr) (m c : Nat) : Calls Tryz.prog 60 #[.slice A m c, .int .i64 2] w fun e w' =>
    e = .returned (.func (.func 79) #[] #[.pointer (some ⟨w.heap.size, 0, none⟩), .pointer (some ⟨w.heap.size + 1, 0, none⟩)]) ∧ w' = (w.alloc (.cells #[.slice A m c] 82)).alloc (.cells #[.int .i64 2] 3) := by
  have z := made_at (w.alloc (.cells #[.slice A m c] 82)) (.cells #[.int .i64 2] 3)
  rw [World.size_alloc] at z
  have z0 := cellH z 0
  simp at z0
  clear z
  go_enter Tryz.func60, Tryz.ntmps60
  go_wp2_with fail
  go_ret
  exact ⟨rfl, rfl⟩
/-- What Chunk hands on: two words, or the last one. -/
def chunkN (m k : Nat) : Nat := min 2 (m - 2 * k)
def encC (ad : Addr) (m : Nat) (k : Nat) : Array Value := #[.slice (some (if chunkN m k = 0 then ad else ad.add (2 * k * 2))) (chunkN m k) (chunkN m k)]
section
variable {w : World} {ad : Addr} {m c B : Nat}
set_option maxHeartbeats 4000000 in
set_option maxRecDepth 100000 in
theorem chunk_iter (n : Nat) (hn : 1 ≤ n) (hw : w.heap[B]? = some (.cells #[.slice (some ad) m c] 82 (0, 0))) (hs : w.heap[B + 1]? = some (.cells #[.int .i64 2] 3 (0, 0))) (hc : m ≤ c) (hl : m ≤ 1000000) :
    Iter2 Fence.wide n Tryz.prog 79 #[.pointer (some ⟨B, 0, none⟩), .pointer (some ⟨B + 1, 0, none⟩)] (ownB B) (encC ad m) ((m + 1) / 2) w := by
  intro l J Jx W hK hJ hJx hY h0
  have hw1 := (hK.block B (.inl rfl) (Array.getElem?_eq_some_iff.1 hw).1).trans hw
  have hs1 := (hK.block (B + 1) (.inr rfl) (Array.getElem?_eq_some_iff.1 hs).1).trans hs
  clear hw hs hK
  refine callsIn_of_wp Tryz.func79 rfl trivial ?_ rfl
  simp only [Tryz.ntmps79, List.size_toArray, List.length_cons, List.length_nil, Nat.reduceAdd, Nat.reduceSub, Array.replicate_succ, Array.replicate_zero, List.push_toArray, List.append_toArray, List.nil_append, List.cons_append]
  gi_wp2
  gi_loopw [4] (fun i wr => ∃ k : Nat, i = .int .i64 (2 * k : Nat) ∧ k ≤ (m + 1) / 2 ∧ Hid (wr.heap[B]? = some (.cells #[.slice (some ad) m c] 82 (0, 0))) ∧ Hid (wr.heap[B + 1]? = some (.cells #[.int .i64 2] 3 (0, 0))) ∧ Hid (J k wr)) (fun i _ => (m + 2) - (intOf i).toNat)
  case atStart => exact ⟨0, rfl, Nat.zero_le _, hw1, hs1, h0⟩
  case round =>
    obtain ⟨k, rfl, hk, HW, HS, HJ⟩ := hrel
    have x0 := cellH HW.out 0
    have x1 := cellH HS.out 0
    simp at x0 x1
    by_cases hlt : 2 * k < m
    · have hkm : k < (m + 1) / 2 := by omega
      have hi0 : (0 : Int) ≤ ((2 * k : Nat) : Int) := by omega
      have hi1 : ((2 * k : Nat) : Int) < (m : Int) := by omega
      have hi2 : ((2 * k : Nat) : Int) ≤ (m : Int) := by omega
      obtain ⟨t, ht⟩ : ∃ t, t = chunkN m k := ⟨_, rfl⟩
      have ht1 : 1 ≤ t ∧ t ≤ 2 ∧ 2 * k + t ≤ m := by rw [ht, chunkN]; omega
      have hmin : minM 2 ((m - 2 * k : Nat) : Int) = (t : Int) := by
        unfold minM
        rw [ht, chunkN]
        split <;> omega
      have HMIN := Lib.hid hmin
      have HT := Lib.hid ht
      obtain ⟨fn, tmps, assign, body, hy, hR⟩ := hY k wr.drew hkm (hJ _ _ _ HJ.out Apart.drew)
      have e1 : encC ad m k = #[.slice (some (ad.add (2 * k * 2))) t t] := by rw [encC, ← ht, if_neg (by omega)]
      rw [e1] at hy
      clear e1 ht hmin hY h0 hw1 hs1
      gi_wp2
      refine wpIn_wide.2 ?_
      refine wp_region_kept (fun W' => W' = wr.drew) (by kernel_rfl) (by kernel_rfl) rfl ?_
      intro hne
      have f0 : ∀ x : HeldW (fun W' => W' = wr.drew), x.w.cell? ⟨B, 0, none⟩ = some (.slice (some ad) m c) := fun x => by rw [x.ok]; exact x0
      have f1 : ∀ x : HeldW (fun W' => W' = wr.drew), x.w.cell? ⟨B + 1, 0, none⟩ = some (.int .i64 2) := fun x => by rw [x.ok]; exact x1
      repeat (go_big_quiet_step (fail))
      refine wpQuiet_nil ?_
      rintro W2 ⟨⟨W2, hS2⟩, rfl⟩
      subst hS2
      rw [HMIN.out]
      have j1 : ((2 * k : Nat) : Int) + (t : Int) ≤ (c : Int) := by omega
      have j2 : ((2 * k : Nat) : Int) ≤ ((2 * k : Nat) : Int) + (t : Int) := by omega
      have j3 : (0 : Int) ≤ ((2 * k : Nat) : Int) + (t : Int) := by omega
      have j4 : (((2 * k : Nat) : Int) + (t : Int)).toNat = 2 * k + t := by omega
      have j5 : IntKind.i64.wrap (((2 * k : Nat) : Int) + (t : Int)) = ((2 * k : Nat) : Int) + (t : Int) := IntWalk.i64_in _ (by omega)
      clear f0 f1
      gi_wp2
      refine hR.mono ?_
      rintro e W3 (⟨rfl, hJ3, hk3⟩ | ⟨rfl, hJ3⟩)
      · have HW3 := Lib.hid ((hk3.block B (.inl rfl) (Array.getElem?_eq_some_iff.1 HW.out).1).trans HW.out)
        have HS3 := Lib.hid ((hk3.block (B + 1) (.inr rfl) (Array.getElem?_eq_some_iff.1 HS.out).1).trans HS.out)
        have HJ3 := Lib.hid hJ3
        clear x0 x1 hy hJ3 hk3 hR j1 j2 j3 j4 j5
        have x1 := cellH HS3.out 0
        simp at x1
        have j6 : IntKind.i64.wrap (((2 * k : Nat) : Int) + 2) = ((2 * (k + 1) : Nat) : Int) := by rw [IntWalk.i64_in _ (by omega)]; omega
        gi_wp2
        go_roundw
        case rel => exact ⟨k + 1, by go_num, by omega, HW3, HS3, HJ3⟩
        case measure => simp [intOf]; omega
      · have HJ3 := Lib.hid hJ3
        clear x0 x1 hy hJ3 hR j1 j2 j3 j4 j5
        gi_wp2
        refine bodyPost_ret (results_none rfl _ _ _) rfl ?_
        exact ⟨⟨_, rfl⟩, .inr HJ3.out⟩
    · have hke : k = (m + 1) / 2 := by omega
      have hge : ¬ ((2 * k : Nat) : Int) < (m : Int) := by omega
      clear hY h0 hw1 hs1
      gi_wp2
      go_end0
      exact ⟨⟨_, rfl⟩, .inl (hke ▸ HJ.out)⟩
end
end Go.Proofs.YtcfnmjhelhdobaaGreatDoor

namespace Go.Proofs.YtcfnmjhelhdobaaGreatDoor
open Go.RowKit
open Go.Maps (Keyed IsMap atKey_put_same atKey_put_other isMap_empty string_keyed has has_put_same has_put_other)

theorem pairs_step {g : Bool} {seen : List ByteArray} {x : LnP} {l : List Wd} (h : l ≠ []) : pairsP g seen x l = (match pairR g seen x l with
    | .inl e => .inl e
    | .inr y => pairsP g y.2 y.1 (l.drop 2)) := by
  rcases l with _ | ⟨a, _ | ⟨b, r⟩⟩
  · exact absurd rfl h
  · rw [pairsP, pairR]
    split
    · rfl
    · split <;> rfl
  · rw [pairsP, pairR]
    split
    · rfl
    · split
      · rfl
      · cases valueP x a.t b <;> rfl
theorem findP_snoc (names : List ByteArray) (n s : ByteArray) (hn : n ∉ names) : findP (names ++ [n]) s = if s = n then some names.length else findP names s := by
  unfold findP
  rw [List.findIdx?_append]
  by_cases h : s = n
  · subst h
    rw [if_pos rfl]
    have : names.findIdx? (fun y => decide (y = s)) = none := by
      rw [List.findIdx?_eq_none_iff]
      intro y hy
      exact decide_eq_false (fun e => hn (e ▸ hy))
    rw [this]
    simp
  · rw [if_neg h]
    have : [n].findIdx? (fun y => decide (y = s)) = none := by
      rw [List.findIdx?_eq_none_iff]
      intro y hy
      obtain rfl := List.mem_singleton.1 hy
      exact decide_eq_false (fun e => h e.symm)
    rw [this]
    cases names.findIdx? (fun y => decide (y = s)) <;> rfl
section
variable {a b : Wd} {r : List Wd} {names : List ByteArray}
theorem lineP_full {l : List Wd} (h : names.length = 8) : lineP (a :: l) names = .inl ⟨16, a.p⟩ := by
  rw [lineP]
  simp [h]
theorem lineP_word {l : List Wd} (h : names.length ≠ 8) (h1 : a.t ≠ sTask) (h2 : a.t ≠ sGate) : lineP (a :: l) names = .inl ⟨17, a.p⟩ := by
  rw [lineP]
  simp [h, h1, h2]
theorem lineP_form (h : names.length ≠ 8) {g : Bool} (h1 : a.t = kindB g) : lineP [a] names = .inl ⟨3, a.p⟩ := by
  rw [lineP]
  have : ¬ (a.t ≠ sTask ∧ a.t ≠ sGate) := by cases g <;> simp [h1, kindB]
  simp only [List.getD_cons_zero]
  rw [if_neg h, if_neg this, if_pos (by simp)]
theorem lineP_two {g : Bool} (h : names.length ≠ 8) (h1 : a.t = kindB g) : lineP (a :: b :: r) names = if nameP b.t = false then .inl ⟨15, b.p⟩ else if memB b.t names then .inl ⟨7, b.p⟩ else match pairsP g [] (ln0 b.t) r with
    | .inl e => .inl e
    | .inr (x, seen) => if wholeB g seen then .inr x else .inl ⟨3, a.p⟩ := by
  have hng : ¬ (a.t ≠ sTask ∧ a.t ≠ sGate) := by cases g <;> simp [h1, kindB]
  have hd : decide (a.t = sGate) = g := by
    rw [h1]
    cases g <;> decide
  rw [lineP]
  simp only [List.getD_cons_zero, List.getD_cons_succ]
  rw [if_neg h, if_neg hng, if_neg (by simp), hd]
  show (if nameP b.t = false then _ else if memB b.t names = true then _ else match pairsP g [] (ln0 b.t) r with
    | .inl e => _
    | .inr (x, seen) => _) = _
  split
  · rfl
  · split
    · rfl
    · cases hp : pairsP g [] (ln0 b.t) r with
      | inl e => rfl
      | inr y =>
        obtain ⟨x, seen⟩ := y
        simp only
        have hg : (a.t = sGate) ↔ g = true := by rw [← hd, decide_eq_true_iff]
        unfold wholeB
        cases g with
        | false =>
          rw [if_neg (fun hh => by have := hg.1 hh.1; cases this)]
          rfl
        | true =>
          cases h3 : memB sTo seen <;> cases h4 : memB sNeed seen <;> simp [hg.2 rfl]
end
/-- Block P is a map in which each of the names stands with its place. -/
def MapIs (w : World) (P q : Nat) (names : List ByteArray) : Prop :=
  ∃ D : DataW Unit, w.ownsMap Tryz.prog 9 (plainElem Tryz.prog 3) P q D ∧ IsMap D ∧ ∀ s : ByteArray, has D (keyS s) = (findP names s).isSome ∧ D.atKey (keyS s) (.lit (.int .i64 0)) = .lit (.int .i64 ((findP names s).getD 0 : Nat))
theorem MapIs.made (w : World) : MapIs (w.alloc (.map #[] 0)) w.heap.size 0 [] :=
  ⟨.map [], World.ownsMap_made w _ _ _, isMap_empty, fun _ => ⟨rfl, rfl⟩⟩
theorem MapIs.block {w w' : World} {P q : Nat} {names : List ByteArray} (h : MapIs w P q names) (hb : ∀ es clock, w.heap[P]? = some (.map es clock) → w'.heap[P]? = w.heap[P]?) : MapIs w' P q names := by
  obtain ⟨D, ⟨es, clock, h1, h2⟩, h3, h4⟩ := h
  exact ⟨D, ⟨es, clock, (hb es clock h1).trans h1, h2⟩, h3, h4⟩
theorem MapIs.isMap {w : World} {P q : Nat} {names : List ByteArray} (h : MapIs w P q names) : ∃ es clock, w.heap[P]? = some (.map es clock) := by
  obtain ⟨D, ⟨es, clock, h1, _⟩, _⟩ := h
  exact ⟨es, clock, h1⟩
theorem MapIs.put {w' : World} {P q : Nat} {names : List ByteArray} {D : DataW Unit} {n : ByteArray} (hn : n ∉ names) (h2 : IsMap D) (h3 : ∀ s : ByteArray, has D (keyS s) = (findP names s).isSome ∧ D.atKey (keyS s) (.lit (.int .i64 0)) = .lit (.int .i64 ((findP names s).getD 0 : Nat)))
    (h : w'.ownsMap Tryz.prog 9 (plainElem Tryz.prog 3) P (q + 1) (D.put (keyS n) (.lit (.int .i64 names.length)))) : MapIs w' P (q + 1) (names ++ [n]) := by
  refine ⟨_, h, h2.put _ _, fun s => ?_⟩
  rw [findP_snoc names n s hn]
  by_cases hk : s = n
  · subst hk
    rw [if_pos rfl]
    exact ⟨has_put_same h2 (show WideAt.IsKeyLit (keyS s) from True.intro) _, atKey_put_same h2 (show WideAt.IsKeyLit (keyS s) from True.intro) _ _⟩
  · rw [if_neg hk]
    have hne : keyS s ≠ keyS n := fun e => hk (keyS_inj.1 e)
    rw [has_put_other hne, atKey_put_other hne]
    exact h3 s

/-- A task's cells as its line left them. -/
def tk0 (x : LnP) : List Value := [.string x.name, .slice none 0 0, .int .i64 x.retry, .int .i64 x.time, .int .i64 x.need, .int .i64 x.lv, .int .u16 x.st]
/-- What the lines told so far. -/
structure RdM (w0 : World) (R P : Nat) (xs : List LnP) (tv av : Value) (vs : List Value) (W : World) : Prop where
  row : W.heap[R]? = some (.cells #[tv, .map (some P), av] 88 (0, 0))
  tasks : W.ownsRow w0.heap.size 47 7 tv xs.length (xs.flatMap tk0)
  places : MapIs W P xs.length (xs.map (·.name))
  after : W.ownsRow w0.heap.size 82 1 av xs.length vs
  aft : ∀ (i : Nat) (x : LnP), xs[i]? = some x → ∃ A c, vs[i]? = some (.slice A x.after.length c) ∧ WdsM W A x.after
  low : Below w0.heap.size w0 W
  base : w0.heap.size ≤ R ∧ w0.heap.size ≤ P
/-- What is kept of memory: all cells but those of a kind, all maps but one. -/
structure KeepT (bad : TypeId → Bool) (bm : Nat → Prop) (W W' : World) : Prop where
  cells : ∀ (b : Nat) (cs : Array Value) (t : TypeId) (m : Nat × Nat), bad t = false → W.heap[b]? = some (.cells cs t m) → W'.heap[b]? = W.heap[b]?
  maps : ∀ (b : Nat) (es : Array MapEntry) (clock : Nat), ¬ bm b → W.heap[b]? = some (.map es clock) → W'.heap[b]? = W.heap[b]?
theorem KeepT.of_below {bad : TypeId → Bool} {bm : Nat → Prop} {W W' : World} (h : Below W.heap.size W W') : KeepT bad bm W W' :=
  ⟨fun b _ _ _ _ hb => h.block b (Array.getElem?_eq_some_iff.1 hb).1, fun b _ _ _ hb => h.block b (Array.getElem?_eq_some_iff.1 hb).1⟩
theorem KeepT.of_apc {bad : TypeId → Bool} {bm : Nat → Prop} {q : Nat} {W W' : World} (h : ApC q W W') : KeepT bad bm W W' :=
  ⟨fun b _ _ _ _ hb => (h.block b _ hb (.inr (fun l e => by cases e))).trans hb.symm, fun b _ _ _ hb => (h.block b _ hb (.inr (fun l e => by cases e))).trans hb.symm⟩
theorem KeepT.trans {bad : TypeId → Bool} {bm : Nat → Prop} {W W' V : World} (h : KeepT bad bm W W') (k : KeepT bad bm W' V) : KeepT bad bm W V :=
  ⟨fun b cs t m ht hb => by have h1 := h.cells b cs t m ht hb; exact (k.cells b cs t m ht (h1.trans hb)).trans h1, fun b es c hm hb => by have h1 := h.maps b es c hm hb; exact (k.maps b es c hm (h1.trans hb)).trans h1⟩
/-- A pair's call: the line's row and its set alone are turned. -/
theorem KeepT.of_pair {w w' : World} {X M q : Nat} {kind : ByteArray} {seen : List ByteArray} {x : LnP} {av : Value} (h : MLn w X M q kind seen x av) (ha : Apart (fun i => i = X ∨ i = M) w w') : KeepT (fun t => t == 123) (fun b => b = M) w w' := by
  refine ⟨fun b cs t m ht hb => ha.block b (Array.getElem?_eq_some_iff.1 hb).1 (fun e => ?_), fun b es c hm hb => ha.block b (Array.getElem?_eq_some_iff.1 hb).1 (fun e => ?_)⟩
  · rcases e with e | e
    · rw [e, h.row] at hb
      injection hb with hb
      injection hb with _ h2
      rw [← h2] at ht
      exact absurd ht (by decide)
    · obtain ⟨es, c, h1⟩ := h.set.isMap
      rw [e, h1] at hb
      cases hb
  · rcases e with e | e
    · rw [e, h.row] at hb
      cases hb
    · exact hm e
theorem KeepT.set {W : World} {B i : Nat} {v : Value} {cs : Array Value} {T : TypeId} {m : Nat × Nat} (hB : W.heap[B]? = some (.cells cs T m)) (bm : Nat → Prop) : KeepT (fun t => t == T) bm W (W.setCell ⟨B, i, none⟩ v) := by
  refine ⟨fun b cs' t m' ht hb => Below.heap_setCell W ⟨B, i, none⟩ v b (by
    show b ≠ B
    rintro rfl
    rw [hB] at hb
    injection hb with hb
    injection hb with _ h2
    rw [h2] at ht
    simp at ht), fun b es c _ hb => Below.heap_setCell W ⟨B, i, none⟩ v b (by
    show b ≠ B
    rintro rfl
    rw [hB] at hb
    cases hb)⟩
theorem WdsM.keep {bad : TypeId → Bool} {bm : Nat → Prop} {W W' : World} {A : Option Addr} {l : List Wd} (h : WdsM W A l) (k : KeepT bad bm W W') (hb : bad 81 = false) : WdsM W' A l :=
  h.frame (fun g cur hg => k.cells g cur _ _ hb hg)
section
variable {w0 W W' : World} {R P : Nat} {xs : List LnP} {tv av : Value} {vs : List Value}
theorem RdM.keep {bad : TypeId → Bool} {bm : Nat → Prop} (h : RdM w0 R P xs tv av vs W) (k : KeepT bad bm W W') (hl : Below w0.heap.size w0 W') (h1 : bad 88 = false) (h2 : bad 47 = false) (h3 : bad 82 = false) (h4 : bad 81 = false) (hP : ¬ bm P) : RdM w0 R P xs tv av vs W' := by
  refine ⟨(k.cells _ _ _ _ h1 h.row).trans h.row, own_frame h.tasks (fun q cur _ hq => k.cells q cur _ _ h2 hq), h.places.block (fun es c hb => k.maps P es c hP hb), own_frame h.after (fun q cur _ hq => k.cells q cur _ _ h3 hq), fun i x hx => ?_, hl, h.base⟩
  obtain ⟨A, c, e, hA⟩ := h.aft i x hx
  exact ⟨A, c, e, hA.keep k h4⟩
theorem RdM.later (h : RdM w0 R P xs tv av vs W) (hb : Below W.heap.size W W') : RdM w0 R P xs tv av vs W' :=
  h.keep (bad := fun _ => false) (bm := fun _ => False) (KeepT.of_below hb) (h.low.trans (hb.mono h.low.size)) rfl rfl rfl rfl (fun x => x)
end
end Go.Proofs.YtcfnmjhelhdobaaGreatDoor
