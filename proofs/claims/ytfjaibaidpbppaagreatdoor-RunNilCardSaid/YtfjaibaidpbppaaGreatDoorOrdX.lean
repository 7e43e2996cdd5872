/-
  The program's ready (order): its closure, slices.IndexFunc and ContainsFunc of it. Conditions: eight tasks at most, each behind a million at most. What is ahead of a task, the order, the longest row: the program's own answers as functions, and the plain facts that the law asks of them. No conditions.
-/
import Derived.Test.YtfjaibaidpbppaaGreatDoorFlat
import Derived.WalkKit
import Derived.OwnWalk
namespace Go.Proofs.YtfjaibaidpbppaaGreatDoor
open Go.RowKit

section
variable {w : World} {A D : Option Addr} {c d : Nat}
set_option maxHeartbeats 400000 in
set_option maxRecDepth 100000 in
theorem waits_is {ds : List Bool} {B p : Nat} (hc : w.cell? ⟨B, 0, none⟩ = some (.slice D ds.length d)) (hD : BoolsAt w D ds) :
    Calls Tryz.prog 107 #[.int .i64 (p : Int), .pointer (some ⟨B, 0, none⟩)] w fun e w' => e = .returned (.bool (!ds.getD p false)) ∧ w = w' := by
  by_cases hlt : p < ds.length
  · obtain ⟨b, hb⟩ : ∃ b, ds[p]? = some b := ⟨_, List.getElem?_eq_getElem hlt⟩
    obtain ⟨ad, rfl, h0⟩ := hD.at_ hb
    have hv : ds.getD p false = b := by rw [List.getD_eq_getElem?_getD, hb]; rfl
    rw [hv]
    have n0 : (0 : Int) ≤ (p : Int) := by omega
    have n1 : ¬ (ds.length : Int) ≤ (p : Int) := by omega
    have n2 : (p : Int) < (ds.length : Int) := by omega
    clear hv hb hD hlt
    go_enter Tryz.func107, Tryz.ntmps107
    go_wp2_with fail
    go_ret
    exact ⟨rfl, rfl⟩
  · have hv : ds.getD p false = false := by rw [List.getD_eq_getElem?_getD, List.getElem?_eq_none (by omega)]; rfl
    rw [hv]
    have n1 : (ds.length : Int) ≤ (p : Int) := by omega
    clear hv hD hlt
    go_enter Tryz.func107, Tryz.ntmps107
    go_wp2_with fail
    go_ret
    exact ⟨rfl, rfl⟩
theorem anyA_take {f : Nat → Bool} {l : List Nat} {k x : Nat} (hx : l[k]? = some x) : (l.take (k + 1)).any f = ((l.take k).any f || f x) := by
  rw [List.take_add_one, hx, List.any_append]
  simp
theorem anyA_hit {f : Nat → Bool} {l : List Nat} {k x : Nat} (hx : l[k]? = some x) (hf : f x = true) : l.any f = true := List.any_eq_true.2 ⟨x, List.mem_of_getElem? hx, hf⟩
set_option maxHeartbeats 400000 in
set_option maxRecDepth 100000 in
theorem idxW_is {l : List Nat} {ds : List Bool} {B : Nat} (hA : NatsAt w A l) (hl : l.length ≤ 1000000) (hc : w.cell? ⟨B, 0, none⟩ = some (.slice D ds.length d)) (hD : BoolsAt w D ds) :
    Calls Tryz.prog 123 #[.slice A l.length c, .func (.func 107) #[] #[.pointer (some ⟨B, 0, none⟩)]] w fun e w' => (∃ r : Int, e = .returned (.int .i64 r) ∧ decide (0 ≤ r) = l.any (fun a => !ds.getD a false)) ∧ w = w' := by
  have HA := Lib.hid hA
  have hw := fun p : Nat => waits_is (p := p) hc hD
  obtain ⟨f, hf⟩ : ∃ f : Nat → Bool, f = fun a => !ds.getD a false := ⟨_, rfl⟩
  have hw2 : ∀ p : Nat, Calls Tryz.prog 107 #[.int .i64 (p : Int), .pointer (some ⟨B, 0, none⟩)] w fun e w' => e = .returned (.bool (f p)) ∧ w = w' := by rw [hf]; exact hw
  rw [← hf]
  have HW := Lib.hid hw2
  clear hA hc hD hf hw hw2
  go_enter Tryz.func123, Tryz.ntmps123
  go_wp2_with fail
  go_loopw [8] (fun i wr => ∃ k : Nat, k ≤ l.length ∧ i = .int .i64 k ∧ Hid ((l.take k).any f = false) ∧ w = wr) (fun i _ => l.length - (intOf i).toNat)
  case atStart => exact ⟨0, Nat.zero_le _, rfl, Lib.hid rfl, rfl⟩
  case round =>
    obtain ⟨k, hk, rfl, H, rfl⟩ := hrel
    by_cases hlt : k < l.length
    · obtain ⟨x, hx⟩ : ∃ x, l[k]? = some x := ⟨_, List.getElem?_eq_getElem hlt⟩
      obtain ⟨ad, rfl, h0⟩ := HA.out.at_ hx
      have HX := Lib.hid hx
      have hk0 : (0 : Int) ≤ (k : Int) := by omega
      have hkl : (k : Int) < (l.length : Int) := by omega
      obtain ⟨b, hb⟩ : ∃ b, b = f x := ⟨_, rfl⟩
      have hwx := HW.out x
      rw [← hb] at hwx
      have HWX := Lib.hid hwx
      have HB := Lib.hid hb
      clear hx hb hwx
      cases b with
      | false =>
        go_wp2_with (go_at_call 107; refine HWX.out.mono ?_; rintro e w1 ⟨rfl, rfl⟩)
        go_roundw
        case rel => exact ⟨k + 1, by omega, by go_num, Lib.hid (by rw [anyA_take HX.out, H.out, ← HB.out]; rfl), by trivial⟩
        case measure => simp [intOf]; omega
      | true =>
        go_wp2_with (go_at_call 107; refine HWX.out.mono ?_; rintro e w1 ⟨rfl, rfl⟩)
        go_ret
        exact ⟨⟨_, rfl, by rw [anyA_hit HX.out HB.out.symm]; exact decide_eq_true (by omega)⟩, rfl⟩
    · obtain rfl : k = l.length := by omega
      have hlk : ¬ (l.length : Int) < (l.length : Int) := by omega
      go_wp2_with fail
      go_ret
      exact ⟨⟨_, rfl, by have h := H.out; rw [List.take_length] at h; rw [h]; rfl⟩, rfl⟩
set_option maxHeartbeats 400000 in
set_option maxRecDepth 100000 in
theorem anyW_is {l : List Nat} {ds : List Bool} {B : Nat} (hA : NatsAt w A l) (hl : l.length ≤ 1000000) (hc : w.cell? ⟨B, 0, none⟩ = some (.slice D ds.length d)) (hD : BoolsAt w D ds) :
    Calls Tryz.prog 108 #[.slice A l.length c, .func (.func 107) #[] #[.pointer (some ⟨B, 0, none⟩)]] w fun e w' => e = .returned (.bool (l.any (fun a => !ds.getD a false))) ∧ w = w' := by
  have HI := Lib.hid (idxW_is (c := c) hA hl hc hD)
  clear hA hc hD
  obtain ⟨b, hb⟩ : ∃ b, b = l.any (fun a => !ds.getD a false) := ⟨_, rfl⟩
  rw [← hb] at HI ⊢
  clear hb
  go_enter Tryz.func108, Tryz.ntmps108
  go_wp2_with (go_at_call 123; refine HI.out.mono ?_; rintro e w1 ⟨⟨r, rfl, hr⟩, rfl⟩)
  go_ret
  exact ⟨by rw [← hr]; rfl, rfl⟩
end

/-- The first k tasks' ready ones. -/
def readyK (ts : List TkP) (ds : List Bool) (k : Nat) : List Nat := (List.range k).filter fun i => !ds.getD i false && ((ts.getD i ⟨⟨#[]⟩, [], 0, 0, 0, 0, 0⟩).after.all fun a => ds.getD a false)
theorem readyK_all (n : ByteArray) (ts : List TkP) (ds : List Bool) : readyK ts ds ts.length = readyP ⟨n, ts⟩ ds := rfl
theorem readyK_len (ts : List TkP) (ds : List Bool) (k : Nat) : (readyK ts ds k).length ≤ k := Nat.le_trans (List.length_filter_le _ _) (by simp)
theorem readyK_next {ts : List TkP} {ds : List Bool} {k : Nat} {t : TkP} (ht : ts[k]? = some t) : readyK ts ds (k + 1) = readyK ts ds k ++ (if (!ds.getD k false && !(t.after.any fun a => !ds.getD a false)) = true then [k] else []) := by
  unfold readyK
  rw [List.range_succ, List.filter_append]
  congr 1
  have h1 : ts.getD k ⟨⟨#[]⟩, [], 0, 0, 0, 0, 0⟩ = t := by rw [List.getD_eq_getElem?_getD, ht]; rfl
  have h2 : (t.after.all fun a => ds.getD a false) = !(t.after.any fun a => !ds.getD a false) := by rw [List.not_any_eq_all_not]; simp
  rw [List.filter_cons, h1, h2]
  rfl
set_option maxHeartbeats 2000000 in
set_option maxRecDepth 100000 in
theorem readyT_is {w : World} {A D : Option Addr} {c d : Nat} {ts : List TkP} {ds : List Bool} (hA : TksAt w A ts) (hD : BoolsAt w D ds) (hn : ts.length ≤ 8) (ha : ∀ t ∈ ts, t.after.length ≤ 1000000) :
    Calls Tryz.prog 89 #[.slice A ts.length c, .slice D ds.length d] w fun e w' => (∃ B b, e = .returned (.slice B (readyK ts ds ts.length).length b) ∧ NatsAt w' B (readyK ts ds ts.length) ∧ ∀ ad, B = some ad → w.heap.size ≤ ad.block) ∧ Below w.heap.size w w' := by
  have b0 := (Below.refl w.heap.size w).alloc (Nat.le_refl _) (.cells #[.slice D ds.length d] 108)
  have HX := Lib.hid (made_at w (.cells #[.slice D ds.length d] 108))
  have HA := Lib.hid (hA.later b0)
  have HD := Lib.hid (hD.later b0)
  have HAL := Lib.hid ha
  have HB0 := Lib.hid b0
  clear b0 hA hD ha
  obtain ⟨i0, hi, hz0, hz1, hz2⟩ := info_all info_int
  go_enter Tryz.func89, Tryz.ntmps89
  go_upto_region 1 with fail
  generalize hW0 : (w.alloc (.cells #[.slice D ds.length d] 108)) = W0 at *
  clear hW0
  go_wp2_with fail
  go_loopw [6, 12] (fun v i wr => ∃ k : Nat, i = .int .i64 k ∧ k ≤ ts.length ∧ Hid (wr.ownsRow W0.heap.size 3 1 v (readyK ts ds k).length (natV (readyK ts ds k))) ∧ Hid (Below W0.heap.size W0 wr)) (fun _ i _ => ts.length - (intOf i).toNat)
  case atStart => exact ⟨0, rfl, Nat.zero_le _, Lib.hid (World.ownsRow_nil _ _ _ _), Lib.hid (Below.refl _ _)⟩
  case round =>
    obtain ⟨k, rfl, hk, HO, HB⟩ := hrel
    by_cases hlt : k < ts.length
    · obtain ⟨t, ht⟩ : ∃ t, ts[k]? = some t := ⟨_, List.getElem?_eq_getElem hlt⟩
      obtain ⟨pa, B1, c1, rfl, p0, pj, hna, hca⟩ := (HA.out.later HB.out).at_ ht
      have p1 := pj 1 _ rfl
      have p2 := pj 2 _ rfl
      have p3 := pj 3 _ rfl
      have p4 := pj 4 _ rfl
      have p5 := pj 5 _ rfl
      have p6 := pj 6 _ rfl
      have HNX := Lib.hid (readyK_next (ds := ds) ht)
      have HLN := Lib.hid (readyK_len ts ds k)
      have hta := HAL.out t (List.mem_of_getElem? ht)
      clear pj ht
      have hk0 : (0 : Int) ≤ (k : Int) := by omega
      have hkl : (k : Int) < (ts.length : Int) := by omega
      go_upto_region 6 with fail
      have hbc := (Below.refl wr.heap.size wr).alloc (Nat.le_refl _) (.cells (tkA t B1 c1) 65)
      have HXC := Lib.hid (made_at wr (.cells (tkA t B1 c1) 65))
      have HBC := Lib.hid (below_step HB.out hbc)
      have HOC := Lib.hid (HO.out.alloc (.cells (tkA t B1 c1) 65))
      have HNA := Lib.hid (hna.later hbc)
      clear hbc p0 p1 p2 p3 p4 p5 p6 hna HO HB
      generalize hWC : (wr.alloc (.cells (tkA t B1 c1) 65)) = W1 at *
      clear hWC
      have p1 := cellH HXC.out 1
      simp at p1
      have hbx : W1.cell? ⟨w.heap.size, 0, none⟩ = some (.slice D ds.length d) := cell_later HBC.out (by have := cellH HX.out 0; simpa using this)
      have HWK := Lib.hid (waits_is (p := k) hbx (HD.out.later HBC.out))
      have HAW := Lib.hid (anyW_is (c := c1) HNA.out hta hbx (HD.out.later HBC.out))
      obtain ⟨f, hf⟩ : ∃ f, f = ds.getD k false := ⟨_, rfl⟩
      obtain ⟨g, hg⟩ : ∃ g, g = t.after.any (fun a => !ds.getD a false) := ⟨_, rfl⟩
      rw [← hf] at HWK HNX
      rw [← hg] at HAW HNX
      clear hf hg hbx
      cases f with
      | true =>
        go_wp2_with (go_at_call 107; refine HWK.out.mono ?_; rintro e w1 ⟨rfl, rfl⟩)
        go_roundw
        case rel => exact ⟨k + 1, by go_num, by omega, Lib.hid (by rw [HNX.out]; simpa using HOC.out), HBC⟩
        case measure => simp [intOf]; omega
      | false =>
        cases g with
        | true =>
          go_wp2_with (first
            | (go_at_call 107; refine HWK.out.mono ?_; rintro e w1 ⟨rfl, rfl⟩)
            | (go_at_call 108; refine HAW.out.mono ?_; rintro e w1 ⟨rfl, rfl⟩))
          go_roundw
          case rel => exact ⟨k + 1, by go_num, by omega, Lib.hid (by rw [HNX.out]; simpa using HOC.out), HBC⟩
          case measure => simp [intOf]; omega
        | false =>
          have hsz := HBC.out.size
          have hlen := HLN.out
          go_wp2_with (first
            | (go_at_call 107; refine HWK.out.mono ?_; rintro e w1 ⟨rfl, rfl⟩)
            | (go_at_call 108; refine HAW.out.mono ?_; rintro e w1 ⟨rfl, rfl⟩)
            | (at_builtin; refine wpList_append_own _ rfl _ _ 60 rfl W0.heap.size 3 i0 _ 1 8 Tryz.underlying60 hi hz0 hz1 hz2 rfl (by omega) _ (readyK ts ds k).length (natV (readyK ts ds k)) rfl (HOC.out.alloc _) ⟨W1.heap.size, 0, none⟩ 1 1 [.int .i64 (k : Int)] rfl rfl (one_cell_new W1 _ _) (by simp [Value.oneCell']) (by unfold maxLen; omega) (by omega) (by simp; omega) ?_; intro v2 w2 hown2 hg2 _))
          have hB2 := (HBC.out.alloc hsz (.cells #[.int .i64 (k : Int)] 3)).grown hg2 (by simp; omega) (fun q hq => (HOC.out.lt q hq).1)
          go_roundw
          case rel => exact ⟨k + 1, by go_num, by omega, Lib.hid (by rw [HNX.out]; simpa [natV] using hown2), Lib.hid hB2⟩
          case measure => simp [intOf]; omega
    · obtain rfl : k = ts.length := by omega
      have hlk : ¬ (ts.length : Int) < (ts.length : Int) := by omega
      obtain ⟨A', c', rfl, hN, _⟩ := nats_own HO.out
      have HN := Lib.hid hN.nats
      have HNB := Lib.hid (show ∀ ad, A' = some ad → w.heap.size ≤ ad.block from fun ad e => by
        subst e
        exact Nat.le_trans HB0.out.size (own_tag HO.out rfl).1)
      clear hN
      go_wp2_with fail
      go_ret
      exact ⟨⟨_, ⟨_, rfl⟩, HN.out, HNB.out⟩, below_step HB0.out HB.out⟩
end Go.Proofs.YtfjaibaidpbppaaGreatDoor

namespace Go.Proofs.YtfjaibaidpbppaaGreatDoor
open Go.RowKit

def aftN (ts : List TkP) (i : Nat) : List Nat := (ts.getD i ⟨⟨#[]⟩, [], 0, 0, 0, 0, 0⟩).after
/-- What is ahead of i, each once, as the program's closure finds it. -/
def downP (ts : List TkP) : Nat → Nat → List Nat → List Nat
  | 0, _, l => l
  | f + 1, i, l => (aftN ts i).foldl (fun l p => if l.contains p then l else downP ts f p (l ++ [p])) l
def upP (ts : List TkP) (i : Nat) : List Nat := downP ts (ts.length + 1) i []
def roundP (p : PiP) : Int := match (List.range p.tasks.length).find? (fun i => (upP p.tasks i).contains i) with
  | some i => i
  | none => -1
/-- Places of n tasks, each once. -/
structure Once (n : Nat) (l : List Nat) : Prop where
  low : ∀ x ∈ l, x < n
  nd : l.Nodup
theorem Once.len {n : Nat} {l : List Nat} (h : Once n l) : l.length ≤ n := few_below _ _ h.low h.nd
theorem Once.more {n x : Nat} {l : List Nat} (h : Once n l) (hx : x < n) (hn : l.contains x = false) : Once n (l ++ [x]) := by
  have hn' : x ∉ l := by
    intro hc
    rw [← List.contains_iff_mem, hn] at hc
    cases hc
  refine ⟨fun y hy => ?_, ?_⟩
  · rcases List.mem_append.1 hy with h1 | h1
    · exact h.low y h1
    · rw [List.mem_singleton.1 h1]; exact hx
  · rw [List.nodup_append]
    refine ⟨h.nd, by simp, fun a ha b hb => ?_⟩
    rw [List.mem_singleton.1 hb]
    rintro rfl
    exact hn' ha
theorem foldl_inv {α β : Type} {P : β → Prop} {f : β → α → β} (xs : List α) (h : ∀ b, P b → ∀ x ∈ xs, P (f b x)) : ∀ b, P b → P (xs.foldl f b) := by
  induction xs with
  | nil => exact fun b hb => hb
  | cons x xs ih => exact fun b hb => ih (fun b hb y hy => h b hb y (List.mem_cons_of_mem _ hy)) _ (h b hb x List.mem_cons_self)
theorem downP_once {ts : List TkP} {n : Nat} (ha : ∀ i, ∀ x ∈ aftN ts i, x < n) : ∀ (f i : Nat) (l : List Nat), Once n l → Once n (downP ts f i l) ∧ l.length ≤ (downP ts f i l).length := by
  intro f
  induction f with
  | zero => exact fun i l h => ⟨h, Nat.le_refl _⟩
  | succ f ih =>
    intro i l h
    unfold downP
    refine foldl_inv (P := fun b => Once n b ∧ l.length ≤ b.length) (aftN ts i) (fun b hb x hx => ?_) l ⟨h, Nat.le_refl _⟩
    by_cases hc : b.contains x = true
    · rw [if_pos hc]; exact hb
    · rw [if_neg hc]
      have h1 := ih x _ (hb.1.more (ha i x hx) (Bool.eq_false_iff.2 hc))
      refine ⟨h1.1, ?_⟩
      have h2 := h1.2
      rw [List.length_append] at h2
      have := hb.2
      omega

/-- The order, from where the tasks ds are done. -/
def orderGo (p : PiP) : Nat → List Bool → Option (List Nat)
  | 0, _ => some []
  | k + 1, ds => match readyP p ds with
    | [] => none
    | i :: _ => (orderGo p k (ds.set i true)).map (i :: ·)
def orderP (p : PiP) : Option (List Nat) := orderGo p p.tasks.length (List.replicate p.tasks.length false)
def rowIn (i : Nat) (r : List Nat) (a : Nat) : List Nat := r.set i (max (r.getD i 0) (r.getD a 0))
def rowUp (i : Nat) (r : List Nat) : List Nat := r.set i (r.getD i 0 + 1)
def rowStep (ts : List TkP) (s : List Nat × Nat) (i : Nat) : List Nat × Nat := (rowUp i ((aftN ts i).foldl (rowIn i) s.1), max s.2 ((rowUp i ((aftN ts i).foldl (rowIn i) s.1)).getD i 0))
def longN (ts : List TkP) (l : List Nat) : Nat := (l.foldl (rowStep ts) (List.replicate l.length 0, 0)).2
def longP (p : PiP) : Int := match orderP p with
  | none => 0
  | some l => (longN p.tasks l : Nat)

theorem getD_setN (r : List Nat) (i j v : Nat) (hi : i < r.length) : (r.set i v).getD j 0 = if j = i then v else r.getD j 0 := by
  rw [List.getD_eq_getElem?_getD, List.getElem?_set, List.getD_eq_getElem?_getD]
  by_cases h : i = j
  · subst h
    simp [hi]
  · have h' : ¬ j = i := fun e => h e.symm
    simp [h, h']
theorem rows_len (i : Nat) : ∀ (xs r : List Nat), (xs.foldl (rowIn i) r).length = r.length := by
  intro xs
  induction xs with
  | nil => exact fun _ => rfl
  | cons x xs ih => exact fun r => (ih _).trans (List.length_set ..)
theorem rows_other {i j : Nat} (hj : j ≠ i) : ∀ (xs r : List Nat), i < r.length → (xs.foldl (rowIn i) r).getD j 0 = r.getD j 0 := by
  intro xs
  induction xs with
  | nil => exact fun _ _ => rfl
  | cons x xs ih =>
    intro r hi
    rw [List.foldl_cons, ih _ (by unfold rowIn; rw [List.length_set]; exact hi)]
    unfold rowIn
    rw [getD_setN _ _ _ _ hi, if_neg hj]
theorem rows_le {K i : Nat} : ∀ (xs r : List Nat), i < r.length → (∀ j, r.getD j 0 ≤ K) → ∀ j, (xs.foldl (rowIn i) r).getD j 0 ≤ K := by
  intro xs
  induction xs with
  | nil => exact fun _ _ h => h
  | cons x xs ih =>
    intro r hi h
    refine ih _ (by unfold rowIn; rw [List.length_set]; exact hi) fun j => ?_
    unfold rowIn
    rw [getD_setN _ _ _ _ hi]
    split
    · exact Nat.max_le.2 ⟨h i, h x⟩
    · exact h j
theorem rows_up {i : Nat} : ∀ (xs r : List Nat), i < r.length → r.getD i 0 ≤ (xs.foldl (rowIn i) r).getD i 0 := by
  intro xs
  induction xs with
  | nil => exact fun _ _ => Nat.le_refl _
  | cons x xs ih =>
    intro r hi
    refine Nat.le_trans ?_ (ih _ (by unfold rowIn; rw [List.length_set]; exact hi))
    unfold rowIn
    rw [getD_setN _ _ _ _ hi, if_pos rfl]
    exact Nat.le_max_left _ _
theorem rows_in {i a : Nat} : ∀ (xs r : List Nat), i < r.length → a ∈ xs → r.getD a 0 ≤ (xs.foldl (rowIn i) r).getD i 0 := by
  intro xs
  induction xs with
  | nil => exact fun _ _ h => absurd h List.not_mem_nil
  | cons x xs ih =>
    intro r hi ha
    have hi' : i < (rowIn i r x).length := by unfold rowIn; rw [List.length_set]; exact hi
    rcases List.mem_cons.1 ha with rfl | h1
    · refine Nat.le_trans ?_ (rows_up xs _ hi')
      unfold rowIn
      rw [getD_setN _ _ _ _ hi, if_pos rfl]
      exact Nat.le_max_right _ _
    · by_cases hai : a = i
      · subst hai
        exact rows_up (x :: xs) r hi
      · have h2 := ih _ hi' h1
        have h3 : (rowIn i r x).getD a 0 = r.getD a 0 := by unfold rowIn; rw [getD_setN _ _ _ _ hi, if_neg hai]
        rw [h3] at h2
        exact h2
theorem up_len (i : Nat) (r : List Nat) : (rowUp i r).length = r.length := List.length_set ..
theorem step_len (ts : List TkP) (s : List Nat × Nat) (i : Nat) : (rowStep ts s i).1.length = s.1.length := (up_len _ _).trans (rows_len _ _ _)
theorem up_at (i j : Nat) (r : List Nat) (hi : i < r.length) : (rowUp i r).getD j 0 = if j = i then r.getD i 0 + 1 else r.getD j 0 := getD_setN _ _ _ _ hi
/-- Of a row after a step. -/
theorem step_at {ts : List TkP} {s : List Nat × Nat} {i j : Nat} (hi : i < s.1.length) : (rowStep ts s i).1.getD j 0 = if j = i then ((aftN ts i).foldl (rowIn i) s.1).getD i 0 + 1 else s.1.getD j 0 := by
  show (rowUp i ((aftN ts i).foldl (rowIn i) s.1)).getD j 0 = _
  rw [up_at _ _ _ (by rw [rows_len]; exact hi)]
  split
  · rfl
  · next h => exact rows_other h _ _ hi
theorem step_two {ts : List TkP} {s : List Nat × Nat} {i : Nat} (hi : i < s.1.length) : (rowStep ts s i).2 = max s.2 (((aftN ts i).foldl (rowIn i) s.1).getD i 0 + 1) := by
  show max s.2 ((rowUp i ((aftN ts i).foldl (rowIn i) s.1)).getD i 0) = _
  rw [up_at _ _ _ (by rw [rows_len]; exact hi), if_pos rfl]
theorem fold_few {ts : List TkP} : ∀ (l : List Nat) (s : List Nat × Nat) (K : Nat), (∀ i ∈ l, i < s.1.length) → (∀ j, s.1.getD j 0 ≤ K) → s.2 ≤ K → (l.foldl (rowStep ts) s).2 ≤ K + l.length := by
  intro l
  induction l with
  | nil => exact fun s K _ _ h => h
  | cons i l ih =>
    intro s K hl hr h2
    have hi := hl i List.mem_cons_self
    have h3 := rows_le (aftN ts i) s.1 hi hr
    have := ih (rowStep ts s i) (K + 1) (fun j hj => by rw [step_len]; exact hl j (List.mem_cons_of_mem _ hj)) (fun j => by
      rw [step_at hi]
      split
      · have := h3 i; omega
      · have := hr j; omega) (by rw [step_two hi]; have := h3 i; omega)
    rw [List.foldl_cons, List.length_cons]
    omega

theorem ready_head {p : PiP} {ds : List Bool} {i : Nat} {l : List Nat} (h : readyP p ds = i :: l) : i < p.tasks.length ∧ ds.getD i false = false ∧ ∀ a ∈ aftN p.tasks i, ds.getD a false = true := by
  have hi : i ∈ readyP p ds := by rw [h]; exact List.mem_cons_self
  unfold readyP at hi
  rw [List.mem_filter, List.mem_range] at hi
  have h2 := hi.2
  simp only [Bool.and_eq_true, Bool.not_eq_true', List.all_eq_true] at h2
  exact ⟨hi.1, h2.1, h2.2⟩
theorem count_set : ∀ (ds : List Bool) (i : Nat), i < ds.length → ds.getD i false = false → (ds.set i true).count false + 1 = ds.count false := by
  intro ds
  induction ds with
  | nil => exact fun i h => absurd h (Nat.not_lt_zero _)
  | cons d ds ih =>
    intro i hi hd
    cases i with
    | zero =>
      have : d = false := by simpa using hd
      subst this
      simp
    | succ i =>
      have := ih i (by simpa using hi) (by simpa using hd)
      rw [List.set_cons_succ, List.count_cons, List.count_cons]
      omega
theorem order_low {p : PiP} : ∀ (k : Nat) (ds : List Bool) (l : List Nat), orderGo p k ds = some l → l.length = k ∧ ∀ i ∈ l, i < p.tasks.length := by
  intro k
  induction k with
  | zero =>
    intro ds l h
    obtain rfl : [] = l := by simpa [orderGo] using h
    exact ⟨rfl, fun i hi => absurd hi List.not_mem_nil⟩
  | succ k ih =>
    intro ds l h
    unfold orderGo at h
    split at h
    · cases h
    · next i r hr =>
      obtain ⟨m, hm, rfl⟩ := Option.map_eq_some_iff.1 h
      have h1 := ih _ _ hm
      refine ⟨by rw [List.length_cons, h1.1], fun j hj => ?_⟩
      rcases List.mem_cons.1 hj with rfl | h2
      · exact (ready_head hr).1
      · exact h1.2 j h2
theorem getD_rep (n j : Nat) : (List.replicate n 0).getD j 0 = 0 := by
  rw [List.getD_eq_getElem?_getD, List.getElem?_replicate]
  split <;> rfl
theorem getD_repB (n j : Nat) : (List.replicate n false).getD j false = false := by
  rw [List.getD_eq_getElem?_getD, List.getElem?_replicate]
  split <;> rfl
theorem longP_few (p : PiP) : longP p ≤ p.tasks.length := by
  unfold longP
  split
  · omega
  · next l hl =>
    have h1 := order_low _ _ _ hl
    have h2 := fold_few (ts := p.tasks) l (List.replicate l.length 0, 0) 0 (fun i hi => by simp only [List.length_replicate]; rw [h1.1]; exact h1.2 i hi) (fun j => by rw [getD_rep]; exact Nat.le_refl _) (Nat.le_refl _)
    unfold longN
    rw [h1.1] at h2
    rw [h1.1]
    omega
theorem aftN_flat {ts : List TkP} (h : flatP ts = true) (i : Nat) : aftN ts i = [] := by
  unfold aftN
  rw [List.getD_eq_getElem?_getD]
  cases hi : ts[i]? with
  | none => rfl
  | some t =>
    have h1 := List.all_eq_true.1 h t (List.mem_of_getElem? hi)
    exact List.isEmpty_iff.1 h1
theorem some_false : ∀ (ds : List Bool), 0 < ds.count false → ∃ i, i < ds.length ∧ ds.getD i false = false := by
  intro ds
  induction ds with
  | nil => intro h; simp at h
  | cons d ds ih =>
    intro h
    cases d with
    | false => exact ⟨0, by simp, rfl⟩
    | true =>
      obtain ⟨i, h1, h2⟩ := ih (by simpa using h)
      exact ⟨i + 1, by simp; omega, by simpa using h2⟩
theorem order_flat {p : PiP} (hf : flatP p.tasks = true) : ∀ (k : Nat) (ds : List Bool) (s : List Nat × Nat), ds.length = p.tasks.length → s.1.length = p.tasks.length → k ≤ ds.count false → (∀ j, ds.getD j false = false → s.1.getD j 0 = 0) → s.2 ≤ 1 →
    ∃ l, orderGo p k ds = some l ∧ (l.foldl (rowStep p.tasks) s).2 = if k = 0 then s.2 else 1 := by
  intro k
  induction k with
  | zero => exact fun ds s _ _ _ _ _ => ⟨[], rfl, rfl⟩
  | succ k ih =>
    intro ds s hd hs hk hr h1
    obtain ⟨i0, hi0, hn0⟩ := some_false ds (by omega)
    cases hrd : readyP p ds with
    | nil =>
      exfalso
      have : i0 ∈ readyP p ds := by
        unfold readyP
        rw [List.mem_filter, List.mem_range]
        refine ⟨by omega, ?_⟩
        have := aftN_flat hf i0
        unfold aftN at this
        rw [this, hn0]
        rfl
      rw [hrd] at this
      exact absurd this List.not_mem_nil
    | cons i r =>
      obtain ⟨a1, a2, a3⟩ := ready_head hrd
      have hi : i < s.1.length := by omega
      have h0 := hr i a2
      have hz := aftN_flat hf i
      obtain ⟨l, hl, he⟩ := ih (ds.set i true) (rowStep p.tasks s i) (by rw [List.length_set]; exact hd) (by rw [step_len]; exact hs) (by have := count_set ds i (by omega) a2; omega) (fun j hj => by
        rw [getD_set] at hj
        simp only [Bool.or_eq_false_iff, decide_eq_false_iff_not, not_and] at hj
        have hji : j ≠ i := fun e => hj.1 e (by omega)
        rw [step_at hi, if_neg hji]
        exact hr j hj.2) (by rw [step_two hi, hz]; show max s.2 (s.1.getD i 0 + 1) ≤ 1; omega)
      refine ⟨i :: l, by unfold orderGo; rw [hrd]; show (orderGo p k (ds.set i true)).map _ = _; rw [hl]; rfl, ?_⟩
      rw [List.foldl_cons, he, if_neg (Nat.succ_ne_zero k)]
      split
      · rw [step_two hi, hz]
        show max s.2 (s.1.getD i 0 + 1) = 1
        omega
      · rfl
theorem longP_flat {p : PiP} (h1 : 1 ≤ p.tasks.length) (hf : flatP p.tasks = true) : longP p = 1 := by
  have hl0 : (List.replicate p.tasks.length false).count false = p.tasks.length := by simp
  obtain ⟨l, hl, he⟩ := order_flat hf p.tasks.length (List.replicate p.tasks.length false) (List.replicate p.tasks.length 0, 0) (by simp) (by simp) (by rw [hl0]; exact Nat.le_refl _) (fun j _ => getD_rep _ _) (Nat.zero_le _)
  have ho : orderP p = some l := hl
  have hlen := (order_low _ _ _ hl).1
  unfold longP
  rw [ho]
  show ((longN p.tasks l : Nat) : Int) = 1
  unfold longN
  rw [hlen, he, if_neg (by omega)]
  rfl
theorem order_one {p : PiP} : ∀ (k : Nat) (ds : List Bool) (s : List Nat × Nat) (l : List Nat), ds.length = p.tasks.length → s.1.length = p.tasks.length → ds.count false ≤ k → orderGo p k ds = some l →
    (∀ j, ds.getD j false = true → 1 ≤ s.1.getD j 0) → (∀ j, ds.getD j false = true → aftN p.tasks j ≠ [] → 2 ≤ s.2) → ∀ j, j < p.tasks.length → aftN p.tasks j ≠ [] → 2 ≤ (l.foldl (rowStep p.tasks) s).2 := by
  intro k
  induction k with
  | zero =>
    intro ds s l hd hs hk hl hr h2 j hj ha
    obtain rfl : [] = l := by simpa [orderGo] using hl
    refine h2 j ?_ ha
    cases h : ds.getD j false with
    | true => rfl
    | false =>
      have := count_set ds j (by omega) h
      omega
  | succ k ih =>
    intro ds s l hd hs hk hl hr h2 j hj ha
    unfold orderGo at hl
    split at hl
    · cases hl
    · next i r hrd =>
      obtain ⟨m, hm, rfl⟩ := Option.map_eq_some_iff.1 hl
      obtain ⟨a1, a2, a3⟩ := ready_head hrd
      have hi : i < s.1.length := by omega
      rw [List.foldl_cons]
      refine ih (ds.set i true) (rowStep p.tasks s i) m (by rw [List.length_set]; exact hd) (by rw [step_len]; exact hs) (by have := count_set ds i (by omega) a2; omega) hm (fun x hx => ?_) (fun x hx hax => ?_) j hj ha
      · rw [step_at hi]
        split
        · omega
        · next hne =>
          rw [getD_set] at hx
          simp only [Bool.or_eq_true, decide_eq_true_eq] at hx
          exact hr x (hx.resolve_left fun h => hne h.1)
      · rw [step_two hi]
        by_cases hxi : x = i
        · subst hxi
          obtain ⟨a, haa⟩ := List.exists_mem_of_ne_nil _ hax
          have b1 := hr a (a3 a haa)
          have b2 := rows_in (aftN p.tasks x) s.1 hi haa
          omega
        · rw [getD_set] at hx
          simp only [Bool.or_eq_true, decide_eq_true_eq] at hx
          have := h2 x (hx.resolve_left fun h => hxi h.1) hax
          omega
theorem longP_one {p : PiP} (hf : flatP p.tasks = false) : longP p ≠ 1 := by
  unfold longP
  split
  · omega
  · next l hl =>
    have hlen := (order_low _ _ _ hl).1
    obtain ⟨t, ht, hte⟩ : ∃ t ∈ p.tasks, t.after.isEmpty = false := by
      unfold flatP at hf
      simpa using hf
    obtain ⟨j, hj, rfl⟩ := List.getElem_of_mem ht
    have ha : aftN p.tasks j ≠ [] := by
      unfold aftN
      rw [List.getD_eq_getElem?_getD, List.getElem?_eq_getElem hj]
      intro e
      simp only [Option.getD_some] at e
      rw [e] at hte
      cases hte
    have h2 := order_one p.tasks.length (List.replicate p.tasks.length false) (List.replicate p.tasks.length 0, 0) l (by simp) (by simp) (by simp) hl (fun j hj => by rw [getD_repB] at hj; cases hj) (fun j hj => by rw [getD_repB] at hj; cases hj) j hj ha
    unfold longN
    rw [hlen]
    omega
end Go.Proofs.YtfjaibaidpbppaaGreatDoor
