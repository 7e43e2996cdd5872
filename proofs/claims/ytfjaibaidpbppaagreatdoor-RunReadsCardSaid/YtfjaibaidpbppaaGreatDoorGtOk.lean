/-
  The program's gate is what layer 12's laws ask: Has, Over, Right, Vote. No conditions but how the votes lie, and sizes.
-/
import Derived.Test.YtfjaibaidpbppaaGreatDoorLsAw
import Derived.Test.YtfjaibaidpbppaaGreatDoorLexU
import Derived.Deep.QuietTactic
import Derived.BigQuiet
import Derived.BigRegion
namespace Go.Proofs.YtfjaibaidpbppaaGreatDoor
open Go.RowKit

/-- Those of the first k numbers who are for it behind a vote for it. -/
def upF (yes : List Int) (who : Int) : Nat → List Int
  | 0 => []
  | k + 1 => if ((k : Int) == who || yes.contains (k : Int)) = true then upF yes who k ++ [(k : Int)] else upF yes who k
theorem upF_succ {yes : List Int} {who : Int} {k : Nat} : upF yes who (k + 1) = if ((k : Int) == who || yes.contains (k : Int)) = true then upF yes who k ++ [(k : Int)] else upF yes who k := rfl
theorem upF_yes {yes : List Int} {who : Int} {k : Nat} (h : (k : Int) = who ∨ yes.contains (k : Int) = true) : upF yes who (k + 1) = upF yes who k ++ [(k : Int)] := by
  rw [upF_succ, if_pos (by rw [Bool.or_eq_true, beq_iff_eq]; exact h)]
theorem upF_no {yes : List Int} {who : Int} {k : Nat} (h1 : ¬ (k : Int) = who) (h2 : yes.contains (k : Int) = false) : upF yes who (k + 1) = upF yes who k := by
  rw [upF_succ, if_neg (by rw [h2, Bool.or_false, beq_iff_eq]; exact h1)]
theorem upF_mem {yes : List Int} {who z : Int} : ∀ {k : Nat}, z ∈ upF yes who k ↔ (0 ≤ z ∧ z < (k : Int)) ∧ (z = who ∨ z ∈ yes)
  | 0 => by
    constructor
    · intro h; cases h
    · rintro ⟨h, _⟩; omega
  | k + 1 => by
    by_cases h1 : (k : Int) = who ∨ yes.contains (k : Int) = true
    · rw [upF_yes h1, List.mem_append, upF_mem (k := k), List.mem_singleton]
      constructor
      · rintro (h | rfl)
        · exact ⟨by omega, h.2⟩
        · exact ⟨by omega, by simpa using h1⟩
      · rintro ⟨h, h2⟩
        by_cases hz : z = (k : Int)
        · exact .inr hz
        · exact .inl ⟨by omega, h2⟩
    · have h2 : ¬ (k : Int) = who := fun e => h1 (.inl e)
      have h3 : yes.contains (k : Int) = false := Bool.eq_false_iff.2 fun e => h1 (.inr e)
      rw [upF_no h2 h3, upF_mem (k := k)]
      constructor
      · rintro ⟨h, h4⟩
        exact ⟨by omega, h4⟩
      · rintro ⟨h, h4⟩
        refine ⟨⟨h.1, ?_⟩, h4⟩
        by_cases hz : z = (k : Int)
        · subst hz
          rcases h4 with e | e
          · exact absurd e h2
          · rw [← List.contains_iff_mem, h3] at e
            cases e
        · omega
theorem upF_rise {yes : List Int} {who : Int} : ∀ {k : Nat}, (upF yes who k).Pairwise (· < ·)
  | 0 => List.Pairwise.nil
  | k + 1 => by
    rw [upF_succ]
    split
    · refine List.pairwise_append.2 ⟨upF_rise, by simp, fun a ha b hb => ?_⟩
      obtain rfl : b = (k : Int) := by simpa using hb
      exact (upF_mem.1 ha).1.2
    · exact upF_rise
theorem upF_len {yes : List Int} {who : Int} : ∀ {k : Nat}, (upF yes who k).length ≤ k
  | 0 => Nat.le_refl _
  | k + 1 => by
    have := upF_len (yes := yes) (who := who) (k := k)
    rw [upF_succ]
    split
    · rw [List.length_append]; simp; omega
    · omega
theorem upF_all {yes : List Int} (h : RisL yes) (who : Int) : upF yes who 12 = yesV yes who true :=
  rise_ext upF_rise (h.vote who true).1 fun z => by
    rw [upF_mem, yesV_mem]
    unfold okWho
    constructor
    · rintro ⟨h1, rfl | h2⟩
      · exact .inr ⟨rfl, by simp; omega, rfl⟩
      · exact .inl h2
    · rintro (h1 | ⟨_, h1, rfl⟩)
      · exact ⟨by have := h.2 z h1; omega, .inr h1⟩
      · simp at h1
        exact ⟨by omega, .inl rfl⟩
/-- What the next one of the numbers must not be below. -/
def LeastAt (l : List Int) (k : Nat) (m : Int) : Prop := (k = 0 ∧ m = 0) ∨ ∃ j y, k = j + 1 ∧ l[j]? = some y ∧ m = y + 1
theorem risL_take {l : List Int} (h : RisL l) (k : Nat) : RisL (l.take k) := ⟨h.1.sublist (List.take_sublist k l), fun x hx => h.2 x (List.mem_of_mem_take hx)⟩
theorem risL_two {l : List Int} {j : Nat} {x y : Int} (h : RisL l) (hx : l[j]? = some x) (hy : l[j + 1]? = some y) : x < y := by
  obtain ⟨hj, e1⟩ := List.getElem?_eq_some_iff.1 hx
  obtain ⟨hj2, e2⟩ := List.getElem?_eq_some_iff.1 hy
  have := List.pairwise_iff_getElem.1 h.1 j (j + 1) hj hj2 (Nat.lt_succ_self _)
  rwa [e1, e2] at this
theorem LeastAt.in_ {l : List Int} {k : Nat} {m : Int} (h : LeastAt l k m) (hr : RisL (l.take k)) : 0 ≤ m ∧ m ≤ 12 := by
  rcases h with ⟨_, rfl⟩ | ⟨j, y, rfl, hj, rfl⟩
  · omega
  · have := hr.2 y (List.mem_of_getElem? (show (l.take (j + 1))[j]? = some y by rw [List.getElem?_take_of_lt (Nat.lt_succ_self _)]; exact hj))
    omega
theorem LeastAt.no {l : List Int} {k : Nat} {m x : Int} (h : LeastAt l k m) (hx : l[k]? = some x) (hb : x < m ∨ 11 < x) : rightV l = false := by
  cases hr : rightV l with
  | false => rfl
  | true =>
    exfalso
    have hR := rightV_iff.1 hr
    have hxx := hR.2 x (List.mem_of_getElem? hx)
    rcases h with ⟨rfl, rfl⟩ | ⟨j, y, rfl, hj, rfl⟩
    · omega
    · have := risL_two hR hj hx
      omega
theorem LeastAt.yes {l : List Int} {k : Nat} {m x : Int} (h : LeastAt l k m) (hr : RisL (l.take k)) (hx : l[k]? = some x) (h0 : ¬ x < m) (h1 : ¬ 11 < x) : RisL (l.take (k + 1)) ∧ LeastAt l (k + 1) (x + 1) := by
  have hm := h.in_ hr
  refine ⟨⟨?_, fun z hz => ?_⟩, .inr ⟨k, x, rfl, hx, rfl⟩⟩
  · rw [List.take_add_one, hx]
    refine List.pairwise_append.2 ⟨hr.1, by simp, fun a ha b hb => ?_⟩
    obtain rfl : b = x := by simpa using hb
    rcases h with ⟨rfl, rfl⟩ | ⟨j, y, rfl, hj, rfl⟩
    · simp at ha
    · obtain ⟨i, hi⟩ := List.mem_iff_getElem?.1 ha
      have hij : i < j + 1 := by
        have := (List.getElem?_eq_some_iff.1 hi).1
        rw [List.length_take] at this
        omega
      by_cases hij2 : i = j
      · subst hij2
        rw [List.getElem?_take_of_lt (Nat.lt_succ_self _), hj] at hi
        have := Option.some.inj hi
        omega
      · have hjl := (List.getElem?_eq_some_iff.1 hj).1
        have hjt : (l.take (j + 1))[j]? = some y := by rw [List.getElem?_take_of_lt (Nat.lt_succ_self _)]; exact hj
        obtain ⟨a1, a2⟩ := List.getElem?_eq_some_iff.1 hi
        obtain ⟨b1, b2⟩ := List.getElem?_eq_some_iff.1 hjt
        have := List.pairwise_iff_getElem.1 hr.1 i j a1 b1 (by omega)
        rw [a2, b2] at this
        omega
  · rw [List.take_add_one, hx] at hz
    rcases List.mem_append.1 hz with h2 | h2
    · exact hr.2 z h2
    · obtain rfl : z = x := by simpa using h2
      omega
section
variable {w : World} {A : Option Addr} {c : Nat} {l yes : List Int}
theorem nilInts12 (w : World) (a : Option Addr) (n c : Nat) : (binOp .eql 60 (.slice a n c) (.slice none 0 0)).run Tryz.prog w = .ok (.bool a.isNone) w := Lib.run_eql_slice_nil w _ 3 a n c 0 0 Tryz.underlying60
set_option maxHeartbeats 1000000 in
set_option maxRecDepth 100000 in
theorem gindex_is (ha : IntsC w A c l) (hn : l.length ≤ 64) (x : Int) :
    Calls Tryz.prog 98 #[.slice A l.length c, .int .i64 x] w fun e w' => ∃ r : Int, e = .returned (.int .i64 r) ∧ decide (0 ≤ r) = l.contains x ∧ Below w.heap.size w w' := by
  have HA := Lib.hid ha
  clear ha
  obtain ⟨b, hb⟩ : ∃ b, b = l.contains x := ⟨_, rfl⟩
  rw [← hb]
  have HBB := Lib.hid hb
  clear hb
  go_enter Tryz.func98, Tryz.ntmps98
  go_wp2_with fail
  go_loopw [8] (fun i wr => ∃ k : Nat, i = .int .i64 k ∧ k ≤ l.length ∧ Hid (∀ y ∈ l.take k, y ≠ x) ∧ w = wr) (fun i _ => l.length - (intOf i).toNat)
  case atStart => exact ⟨0, rfl, Nat.zero_le _, Lib.hid (fun y h => by simp at h), rfl⟩
  case round =>
    obtain ⟨k, rfl, hk, HF, rfl⟩ := hrel
    by_cases hlt : k < l.length
    · obtain ⟨ad, y, rfl, hy, h0⟩ := HA.out.get hlt
      have hc1 := HA.out.cap
      have hkl : (k : Int) < (l.length : Int) := by omega
      have HY := Lib.hid hy
      clear hy
      by_cases hxy : y = x
      · have n1 : (x == y) = true := beq_iff_eq.2 hxy.symm
        have HE := Lib.hid (show b = true by rw [HBB.out, List.contains_iff_mem, ← hxy]; exact List.mem_of_getElem? HY.out)
        clear hxy
        go_wp2_with fail
        go_ret
        exact ⟨k, rfl, by rw [HE.out]; exact decide_eq_true (by omega), Below.refl _ _⟩
      · have n1 : (x == y) = false := beq_eq_false_iff_ne.2 (fun e => hxy e.symm)
        have HN := Lib.hid (show ∀ z ∈ l.take (k + 1), z ≠ x from fun z hz => by
          rw [List.take_add_one, HY.out] at hz
          rcases List.mem_append.1 hz with h | h
          · exact HF.out z h
          · obtain rfl : z = y := by simpa using h
            exact hxy)
        clear hxy
        go_wp2_with fail
        go_roundw
        case rel => exact ⟨k + 1, by go_num, by omega, HN, by trivial⟩
        case measure => simp [intOf]; omega
    · obtain rfl : k = l.length := by omega
      have hlk : ¬ (l.length : Int) < (l.length : Int) := by omega
      have HE := Lib.hid (show b = false by
        rw [HBB.out]
        cases hc : l.contains x with
        | false => rfl
        | true =>
          rw [List.contains_iff_mem] at hc
          exact absurd rfl (HF.out x (by rw [List.take_length]; exact hc)))
      go_wp2_with fail
      go_ret
      exact ⟨-1, rfl, by rw [HE.out]; rfl, Below.refl _ _⟩
set_option maxHeartbeats 1000000 in
set_option maxRecDepth 100000 in
theorem gcontains_is (ha : IntsC w A c l) (hn : l.length ≤ 64) (x : Int) :
    Calls Tryz.prog 81 #[.slice A l.length c, .int .i64 x] w fun e w' => e = .returned (.bool (l.contains x)) ∧ Below w.heap.size w w' := by
  have HA := Lib.hid ha
  clear ha
  go_enter Tryz.func81, Tryz.ntmps81
  go_wp2_with fail
  refine (gindex_is HA.out hn x).mono ?_
  rintro e w1 ⟨r, rfl, hr, hb⟩
  have HB := Lib.hid hb
  have HR := Lib.hid hr
  clear hb hr
  go_wp2_with fail
  go_ret
  exact ⟨congrArg (fun z => Ending.returned (Value.bool z)) HR.out, HB.out⟩
set_option maxHeartbeats 1000000 in
set_option maxRecDepth 100000 in
theorem ghas_is (no : Bool) (who : Int) (ha : IntsC w A c yes) (hn : yes.length ≤ 64) :
    Calls Tryz.prog 54 #[.agg #[.slice A yes.length c, .bool no], .int .i64 who] w fun e w' => e = .returned (.bool (yes.contains who)) ∧ Below w.heap.size w w' := by
  have HV := Lib.hid (VtAt.made ha no)
  have HB := Lib.hid ((Below.refl w.heap.size w).alloc (Nat.le_refl _) (.cells #[.slice A yes.length c, .bool no] 75))
  clear ha
  obtain ⟨b, hb⟩ : ∃ b, b = yes.contains who := ⟨_, rfl⟩
  rw [← hb]
  go_enter Tryz.func54, Tryz.ntmps54
  go_upto_region 1 with fail
  generalize hW : (w.alloc (.cells #[.slice A yes.length c, .bool no] 75)) = W at *
  clear hW
  have x0 : W.cell? ⟨w.heap.size, 0, none⟩ = some (.slice A yes.length c) := HV.out.cells.1
  have hc := gcontains_is HV.out.2 hn who
  rw [← hb] at hc
  have HC := Lib.hid hc
  clear hc hb
  go_wp2_with fail
  refine HC.out.mono ?_
  rintro e w1 ⟨rfl, hb⟩
  have HB1 := Lib.hid (below_step HB.out hb)
  clear hb x0
  go_wp2_with fail
  go_ret
  exact ⟨rfl, HB1.out⟩
theorem gover_is (o t n : Int) (ho0 : 0 ≤ o) (ho1 : o ≤ 1000000) (ht0 : 0 ≤ t) (ht1 : t ≤ 1000000) : Calls Tryz.prog 38 #[.int .i64 o, .int .i64 t, .int .i64 n] w fun e w' => e = .returned (.bool (decide (o + t ≤ n))) ∧ Below w.heap.size w w' := by
  go_enter Tryz.func38, Tryz.ntmps38
  go_wp2_with fail
  go_ret
  exact ⟨rfl, Below.refl _ _⟩
set_option maxHeartbeats 1000000 in
set_option maxRecDepth 100000 in
theorem gclone_is (ha : IntsC w A c l) (hn : l.length ≤ 64) :
    Calls Tryz.prog 67 #[.slice A l.length c] w fun e w' => ∃ B b, e = .returned (.slice B l.length b) ∧ IntsC w' B b l ∧ (∀ ad, B = some ad → w.heap.size ≤ ad.block) ∧ Below w.heap.size w w' := by
  have q0 := nilInts12
  obtain ⟨i0, hi, hz0, hz1, hz2⟩ := info_all info_int
  rcases A with _ | ad
  · obtain ⟨rfl, rfl⟩ := ha.nil rfl
    simp only [List.length_nil]
    go_enter Tryz.func67, Tryz.ntmps67
    go_wp2_with fail
    go_ret
    exact ⟨none, 0, rfl, IntsC.none_ _, (fun _ h => by cases h), Below.refl _ _⟩
  · have HA := Lib.hid ha
    clear ha
    go_enter Tryz.func67, Tryz.ntmps67
    go_wp2_with (at_builtin; refine wpList_append_own _ rfl _ _ 60 rfl w.heap.size 3 i0 _ 1 8 Tryz.underlying60 hi hz0 hz1 hz2 rfl (by omega) (.slice (some ⟨w.heap.size, 0, none⟩) 0 0) 0 [] rfl (World.ownsRow_lit w #[] 0 (Nat.le_refl _) (by unfold maxLen; omega) rfl) ad l.length c (l.map (Value.int .i64)) rfl (by simp) (fun j u hu => cell_alloc (HA.out.opt ad rfl j u hu)) (by simp [Value.oneCell']) (by unfold maxLen; omega) (by omega) (by simp) ?_; intro v1 w1 hown1 hg1 _)
    obtain ⟨B, b, rfl, hB, hO⟩ := intsC_of_own (zs := l) (by simpa using hown1)
    go_ret
    exact ⟨B, b, rfl, hB, hO, ((Below.refl _ _).alloc (Nat.le_refl _) _).grown hg1 (by simp) (by simp [Value.ownBlock])⟩
theorem IntsC.same {w w' : World} {A : Option Addr} {c : Nat} {l : List Int} (h : IntsC w A c l) (hk : ∀ ad, A = some ad → w'.heap[ad.block]? = w.heap[ad.block]?) : IntsC w' A c l := ⟨fun hn => by
  obtain ⟨ad, e, hc⟩ := h.at_ hn
  refine ⟨ad, e, fun i hi => ?_⟩
  rw [World.cell?_of_block (w := w) (w' := w') (a := ad.add i) (by rw [add_block]; exact hk ad e)]
  exact hc i hi, h.cap, h.nil⟩
/-- What is held while a vote for it is noted: the votes, the result, the next ones. -/
structure VoS (w : World) (A : Option Addr) (c : Nat) (yes : List Int) (no : Bool) (v : Value) (L : List Int) (W : World) : Prop where
  bl : Below w.heap.size w W
  sz : w.heap.size + 3 ≤ W.heap.size
  vg : W.heap[w.heap.size]? = some (.cells #[.slice A yes.length c, .bool no] 75 (0, 0))
  rs : W.heap[w.heap.size + 1]? = some (.cells #[.slice none 0 0, .bool false] 75 (0, 0))
  nx : W.heap[w.heap.size + 1 + 1]? = some (.cells #[v, .bool no] 75 (0, 0))
  ow : W.ownsRow (w.heap.size + 3) 3 1 v L.length (L.map (Value.int .i64))
theorem VoS.later {no : Bool} {v : Value} {L : List Int} {W V : World} (h : VoS w A c yes no v L W) (hb : Below W.heap.size W V) : VoS w A c yes no v L V :=
  ⟨below_step h.bl hb, Nat.le_trans h.sz hb.size, later_at hb h.vg, later_at hb h.rs, later_at hb h.nx, own_frame h.ow fun _ _ _ hq => (later_at hb hq).trans hq.symm⟩
theorem VoS.cells {no : Bool} {v : Value} {L : List Int} {W : World} (h : VoS w A c yes no v L W) : W.cell? ⟨w.heap.size, 0, none⟩ = some (.slice A yes.length c) ∧ W.cell? ⟨w.heap.size, 1, none⟩ = some (.bool no) ∧ W.cell? ⟨w.heap.size + 1 + 1, 0, none⟩ = some v ∧ W.cell? ⟨w.heap.size + 1 + 1, 1, none⟩ = some (.bool no) ∧ (∀ i, W.frozen? ⟨w.heap.size + 1 + 1, i, none⟩ = false) :=
  ⟨by rw [cellH h.vg]; rfl, by rw [cellH h.vg]; rfl, by rw [cellH h.nx]; rfl, by rw [cellH h.nx]; rfl, freeH h.nx⟩
/-- One more is put behind them. -/
theorem VoS.put {no : Bool} {v v2 : Value} {L : List Int} {x : Int} {W W2 : World} (h : VoS w A c yes no v L W) (hown : W2.ownsRow (w.heap.size + 3) 3 1 v2 (L ++ [x]).length ((L ++ [x]).map (Value.int .i64))) (hg : (W.alloc (.cells #[.int .i64 x] 3)).grownBy W2 v.ownBlock) :
    W2.heap[w.heap.size + 1 + 1]? = some (.cells #[v, .bool no] 75 (0, 0)) ∧ VoS w A c yes no v2 (L ++ [x]) (W2.setCell ⟨w.heap.size + 1 + 1, 0, none⟩ v2) := by
  have hb : Below (w.heap.size + 3) W W2 := ((Below.refl (w.heap.size + 3) W).alloc h.sz _).grown hg (by have := h.sz; simp; omega) (fun q hq => (own_tag h.ow hq).1)
  have hk : ∀ q o, q < w.heap.size + 3 → W.heap[q]? = some o → W2.heap[q]? = some o := fun q o hq ho => by rw [hb.block q hq]; exact ho
  have hset : ∀ q, q ≠ w.heap.size + 1 + 1 → (W2.setCell ⟨w.heap.size + 1 + 1, 0, none⟩ v2).heap[q]? = W2.heap[q]? := fun q hq => Below.heap_setCell W2 ⟨w.heap.size + 1 + 1, 0, none⟩ v2 q (by simpa using hq)
  have hbl : Below w.heap.size w (W2.setCell ⟨w.heap.size + 1 + 1, 0, none⟩ v2) := (h.bl.trans (hb.mono (by omega))).setCell (p := ⟨w.heap.size + 1 + 1, 0, none⟩) (show w.heap.size ≤ w.heap.size + 1 + 1 by omega) v2
  have hn2 := hk _ _ (by omega) h.nx
  refine ⟨hn2, hbl, ?_, ?_, ?_, ?_, ?_⟩
  · have := hb.size
    have := h.sz
    simp
    omega
  · rw [hset _ (by omega)]
    exact hk _ _ (by omega) h.vg
  · rw [hset _ (by omega)]
    exact hk _ _ (by omega) h.rs
  · rw [row_set hn2]
    rfl
  · exact own_frame hown fun q _ hq _ => hset q (by omega)
theorem VoS.start (w : World) (A : Option Addr) (c : Nat) (yes : List Int) (no : Bool) : VoS w A c yes no (.slice none 0 0) [] (((w.alloc (.cells #[.slice A yes.length c, .bool no] 75)).alloc (.cells #[.slice none 0 0, .bool false] 75)).alloc (.cells #[.slice none 0 0, .bool no] 75)) := by
  have b1 := (Below.refl w.heap.size w).alloc (Nat.le_refl _) (.cells #[.slice A yes.length c, .bool no] 75)
  have m1 := made_at w (.cells #[.slice A yes.length c, .bool no] 75)
  have z1 : (w.alloc (.cells #[.slice A yes.length c, .bool no] 75)).heap.size = w.heap.size + 1 := World.size_alloc _ _
  generalize (w.alloc (.cells #[.slice A yes.length c, .bool no] 75)) = W1 at *
  have k2 := (Below.refl W1.heap.size W1).alloc (Nat.le_refl _) (.cells #[.slice none 0 0, .bool false] 75)
  have m2 := made_at W1 (.cells #[.slice none 0 0, .bool false] 75)
  have z2 : (W1.alloc (.cells #[.slice none 0 0, .bool false] 75)).heap.size = w.heap.size + 1 + 1 := by rw [World.size_alloc, z1]
  generalize (W1.alloc (.cells #[.slice none 0 0, .bool false] 75)) = W2 at *
  have k3 := (Below.refl W2.heap.size W2).alloc (Nat.le_refl _) (.cells #[.slice none 0 0, .bool no] 75)
  have m3 := made_at W2 (.cells #[.slice none 0 0, .bool no] 75)
  have z3 : (W2.alloc (.cells #[.slice none 0 0, .bool no] 75)).heap.size = w.heap.size + 3 := by rw [World.size_alloc, z2]
  generalize (W2.alloc (.cells #[.slice none 0 0, .bool no] 75)) = W3 at *
  rw [z1] at m2
  rw [z2] at m3
  exact ⟨below_step (below_step b1 k2) k3, by omega, later_at k3 (later_at k2 m1), later_at k3 m2, m3, World.ownsRow_nil _ _ _ _⟩
theorem row_keep12 {W : World} {B q i : Nat} {v : Value} (hq : q ≠ B) : (W.setCell ⟨B, i, none⟩ v).heap[q]? = W.heap[q]? := Below.heap_setCell W ⟨B, i, none⟩ v q (by simpa using hq)
/-- The result is laid. -/
theorem VoS.done {no : Bool} {B : Option Addr} {n b : Nat} {L : List Int} {W : World} (h : VoS w A c yes no (.slice B n b) L W) (hB : IntsC W B b L) (hO : ∀ ad, B = some ad → w.heap.size + 3 ≤ ad.block) :
    ((W.setCell ⟨w.heap.size + 1, 0, none⟩ (.slice B n b)).setCell ⟨w.heap.size + 1, 1, none⟩ (.bool no)).drew.heap[w.heap.size + 1]? = some (.cells #[.slice B n b, .bool no] 75 (0, 0)) ∧
    IntsC ((W.setCell ⟨w.heap.size + 1, 0, none⟩ (.slice B n b)).setCell ⟨w.heap.size + 1, 1, none⟩ (.bool no)).drew B b L ∧
    Below w.heap.size w ((W.setCell ⟨w.heap.size + 1, 0, none⟩ (.slice B n b)).setCell ⟨w.heap.size + 1, 1, none⟩ (.bool no)).drew := by
  refine ⟨?_, hB.same fun ad e => ?_, ((h.bl.setCell (p := ⟨w.heap.size + 1, 0, none⟩) (Nat.le_succ _) _).setCell (p := ⟨w.heap.size + 1, 1, none⟩) (Nat.le_succ _) _).drew⟩
  · show ((W.setCell ⟨w.heap.size + 1, 0, none⟩ (.slice B n b)).setCell ⟨w.heap.size + 1, 1, none⟩ (.bool no)).heap[w.heap.size + 1]? = _
    rw [row_set (row_set h.rs)]
    rfl
  · have := hO ad e
    exact (row_keep12 (by omega)).trans (row_keep12 (by omega))
theorem two_votes (w : World) (A : Option Addr) (c : Nat) (yes : List Int) (no : Bool) :
    ((w.alloc (.cells #[.slice A yes.length c, .bool no] 75)).alloc (.cells #[.slice none 0 0, .bool false] 75)).heap[w.heap.size]? = some (.cells #[.slice A yes.length c, .bool no] 75 (0, 0)) ∧
    ((w.alloc (.cells #[.slice A yes.length c, .bool no] 75)).alloc (.cells #[.slice none 0 0, .bool false] 75)).heap[w.heap.size + 1]? = some (.cells #[.slice none 0 0, .bool false] 75 (0, 0)) ∧
    Below w.heap.size w ((w.alloc (.cells #[.slice A yes.length c, .bool no] 75)).alloc (.cells #[.slice none 0 0, .bool false] 75)) ∧
    ((w.alloc (.cells #[.slice A yes.length c, .bool no] 75)).alloc (.cells #[.slice none 0 0, .bool false] 75)).heap.size = w.heap.size + 2 := by
  have b1 := (Below.refl w.heap.size w).alloc (Nat.le_refl _) (.cells #[.slice A yes.length c, .bool no] 75)
  have m1 := made_at w (.cells #[.slice A yes.length c, .bool no] 75)
  have z1 : (w.alloc (.cells #[.slice A yes.length c, .bool no] 75)).heap.size = w.heap.size + 1 := World.size_alloc _ _
  generalize (w.alloc (.cells #[.slice A yes.length c, .bool no] 75)) = W1 at *
  have k2 := (Below.refl W1.heap.size W1).alloc (Nat.le_refl _) (.cells #[.slice none 0 0, .bool false] 75)
  have m2 := made_at W1 (.cells #[.slice none 0 0, .bool false] 75)
  have z2 : (W1.alloc (.cells #[.slice none 0 0, .bool false] 75)).heap.size = w.heap.size + 2 := by rw [World.size_alloc, z1]
  rw [z1] at m2
  exact ⟨later_at k2 m1, m2, below_step b1 k2, z2⟩
theorem gres_cell_tmp {P : Program} {fn : Func} {p u : Tmp} {ty : TypeId} (h : fn.results = #[.cell p ty, .tmp u]) (tmps : Array Value) (w : World) (g : Nat) (t : TypeId) (cs : Array Value) (fr : Nat × Nat) (d : TypeDesc)
    (hp : tmps.getD p undef = .pointer (some ⟨g, 0, none⟩)) (hg : w.heap[g]? = some (.cells cs t fr))
    (hu : P.underlying ty = some d) (hd : (match d with | .struct _ | .array _ _ => true | _ => false) = true) (hi : (P.info? ty).map (·.size) = some cs.size) :
    (results fn tmps).run P w = .ok (.tuple #[.agg cs, tmps.getD u undef]) w := by
  have hp' : tmps[p]?.getD undef = .pointer (some ⟨g, 0, none⟩) := by simpa using hp
  simp [results, h, hp', asAddr, run_loadVar_row w g t ty cs fr d hg hu hd hi]
/-- What Vote answers: votes in new memory. -/
def VtN (w : World) (yes : List Int) (no may : Bool) (e : Ending) (w' : World) : Prop := ∃ B b, e = .returned (.tuple #[.agg #[.slice B yes.length b, .bool no], .bool may]) ∧ IntsC w' B b yes ∧ Below w.heap.size w w' ∧ ∀ ad, B = some ad → w.heap.size ≤ ad.block
theorem VtN.vtp {w w' : World} {yes : List Int} {no may : Bool} {e : Ending} (h : VtN w yes no may e w') : VtP w yes no may e w' := by
  obtain ⟨B, b, h1, h2, h3, _⟩ := h
  exact ⟨B, b, h1, h2, h3⟩
theorem info_vote : (Tryz.prog.info? 75).map (·.size) = some 2 := by kernel_rfl
set_option maxHeartbeats 4000000 in
set_option maxRecDepth 100000 in
theorem gvote_yesN (no : Bool) (who need : Int) (ha : IntsC w A c yes) (hr : RisL yes) :
    Calls Tryz.prog 55 #[.agg #[.slice A yes.length c, .bool no], .int .i64 who, .bool true, .int .i64 need] w (VtN w (yesV yes who true) no (mayV (yesV yes who true) no need)) := by
  have HA := Lib.hid ha
  have HN := Lib.hid (hr.len)
  obtain ⟨i0, hi, hz0, hz1, hz2⟩ := info_all info_int
  obtain ⟨ys, hys⟩ : ∃ ys, ys = yesV yes who true := ⟨_, rfl⟩
  rw [← hys]
  have HYS := Lib.hid (hys.trans (upF_all hr who).symm)
  clear ha hr hys
  go_enter Tryz.func55, Tryz.ntmps55
  go_upto_region 4 with fail
  have HS0 := Lib.hid (VoS.start w A c yes no)
  generalize hW0 : (((w.alloc (.cells #[.slice A yes.length c, .bool no] 75)).alloc (.cells #[.slice none 0 0, .bool false] 75)).alloc (.cells #[.slice none 0 0, .bool no] 75)) = W0 at *
  clear hW0
  go_wp2_with fail
  go_loopw [21] (fun i wr => ∃ (k : Nat) (v : Value), i = .int .i64 k ∧ k ≤ 12 ∧ Hid (VoS w A c yes no v (upF yes who k) wr)) (fun i _ => 12 - (intOf i).toNat)
  case atStart => exact ⟨0, _, rfl, by omega, HS0⟩
  case round =>
    obtain ⟨k, v, rfl, hk, HS⟩ := hrel
    clear HS0
    by_cases hlt : k < 12
    · have hkl : (k : Int) < 12 := by omega
      have hL := upF_len (yes := yes) (who := who) (k := k)
      obtain ⟨L, hLL⟩ : ∃ L, L = upF yes who k := ⟨_, rfl⟩
      rw [← hLL] at HS hL
      by_cases hx : (k : Int) = who
      · have n1 : ((k : Int) == who) = true := beq_iff_eq.2 hx
        have HU := Lib.hid (show upF yes who (k + 1) = L ++ [(k : Int)] by rw [hLL]; exact upF_yes (.inl hx))
        obtain ⟨x0, x1, x2, x3, f0⟩ := HS.out.cells
        clear hx hLL
        go_wp2_with (at_builtin; refine wpList_append_own _ rfl (.tmp 33) (.tmp 35) 60 rfl (w.heap.size + 3) 3 i0 _ 1 8 Tryz.underlying60 hi hz0 hz1 hz2 rfl (by omega) v L.length (L.map (Value.int .i64)) rfl (HS.out.ow.alloc _) ⟨wr.heap.size, 0, none⟩ 1 1 [.int .i64 k] rfl rfl (one_cell_new wr _ _) (by simp [Value.oneCell']) (by unfold maxLen; omega) (by omega) (by have := HS.out.sz; simp; omega) ?_; intro v2 w2 hown2 hg2 _; obtain ⟨B2, b2, rfl, _, _⟩ := intsC_of_own (zs := L ++ [(k : Int)]) (by simpa using hown2); obtain ⟨hn2, hS2⟩ := HS.out.put (x := (k : Int)) (by simpa using hown2) hg2; have HS2 := Lib.hid hS2; have x4 := cellH hn2 0; have f4 := freeH hn2 0; simp at x4; clear hS2 hown2 hg2 hn2 x0 x1 x2 x3 f0)
        go_roundw
        case rel => exact ⟨k + 1, _, by go_num, by omega, Lib.hid (by rw [HU.out]; exact HS2.out)⟩
        case measure => simp [intOf]; omega
      · have n1 : ((k : Int) == who) = false := beq_eq_false_iff_ne.2 hx
        have HI := Lib.hid (HA.out.later HS.out.bl)
        have hcc := ghas_is no (k : Int) HI.out (by have := HN.out; omega)
        obtain ⟨x0, x1, x2, x3, f0⟩ := HS.out.cells
        cases hb : yes.contains (k : Int) with
        | true =>
          rw [hb] at hcc
          have HC := Lib.hid hcc
          have HU := Lib.hid (show upF yes who (k + 1) = L ++ [(k : Int)] by rw [hLL]; exact upF_yes (.inr hb))
          clear hcc hb hx hLL
          go_wp2_with fail
          refine HC.out.mono ?_
          rintro e w1 ⟨rfl, hb1⟩
          have HS1 := Lib.hid (HS.out.later hb1)
          clear hb1 HC x0 x1 x2 x3 f0 HS HI
          obtain ⟨x0, x1, x2, x3, f0⟩ := HS1.out.cells
          go_wp2_with (at_builtin; refine wpList_append_own _ rfl (.tmp 33) (.tmp 35) 60 rfl (w.heap.size + 3) 3 i0 _ 1 8 Tryz.underlying60 hi hz0 hz1 hz2 rfl (by omega) v L.length (L.map (Value.int .i64)) rfl (HS1.out.ow.alloc _) ⟨w1.heap.size, 0, none⟩ 1 1 [.int .i64 k] rfl rfl (one_cell_new w1 _ _) (by simp [Value.oneCell']) (by unfold maxLen; omega) (by omega) (by have := HS1.out.sz; simp; omega) ?_; intro v2 w2 hown2 hg2 _; obtain ⟨B2, b2, rfl, _, _⟩ := intsC_of_own (zs := L ++ [(k : Int)]) (by simpa using hown2); obtain ⟨hn2, hS2⟩ := HS1.out.put (x := (k : Int)) (by simpa using hown2) hg2; have HS2 := Lib.hid hS2; have x4 := cellH hn2 0; have f4 := freeH hn2 0; simp at x4; clear hS2 hown2 hg2 hn2 x0 x1 x2 x3 f0)
          go_roundw
          case rel => exact ⟨k + 1, _, by go_num, by omega, Lib.hid (by rw [HU.out]; exact HS2.out)⟩
          case measure => simp [intOf]; omega
        | false =>
          rw [hb] at hcc
          have HC := Lib.hid hcc
          have HU := Lib.hid (show upF yes who (k + 1) = L by rw [hLL]; exact upF_no hx hb)
          clear hcc hb hx hLL
          go_wp2_with fail
          refine HC.out.mono ?_
          rintro e w1 ⟨rfl, hb1⟩
          have HS1 := Lib.hid (HS.out.later hb1)
          clear hb1 HC x0 x1 x2 x3 f0 HS HI
          go_wp2_with fail
          go_roundw
          case rel => exact ⟨k + 1, v, by go_num, by omega, Lib.hid (by rw [HU.out]; exact HS1.out)⟩
          case measure => simp [intOf]; omega
    · obtain rfl : k = 12 := by omega
      have hs := HS.out
      rw [← HYS.out] at hs
      obtain ⟨B, b, rfl, hB, hO⟩ := intsC_of_own hs.ow
      have HS1 := Lib.hid hs
      have HB := Lib.hid hB
      have HO := Lib.hid hO
      obtain ⟨x0, x1, x2, x3, f0⟩ := hs.cells
      have y0 := cellH hs.rs 0
      have y1 := cellH hs.rs 1
      have g0 := freeH hs.rs
      simp at y0 y1
      clear hs hB hO HS
      cases no with
      | true =>
        have HM := Lib.hid (show mayV ys true need = false from rfl)
        go_wp2_with fail
        go_region
        go_wp2_with fail
        have HE := Lib.hid (HS1.out.done HB.out HO.out)
        exact bodyPost_ret (gres_cell_tmp (fn := Tryz.f55) rfl _ _ (w.heap.size + 1) 75 #[.slice B ys.length b, .bool true] (0, 0) _ rfl HE.out.1 Tryz.underlying75 rfl info_vote) rfl ⟨B, b, by rw [HM.out]; rfl, HE.out.2.1, HE.out.2.2, fun ad e => by have := HO.out ad e; omega⟩
      | false =>
        by_cases hge : need ≤ (ys.length : Int)
        · have HM := Lib.hid (show mayV ys false need = true by unfold mayV; rw [decide_eq_true hge]; rfl)
          go_wp2_with fail
          go_region
          go_wp2_with fail
          have HE := Lib.hid (HS1.out.done HB.out HO.out)
          exact bodyPost_ret (gres_cell_tmp (fn := Tryz.f55) rfl _ _ (w.heap.size + 1) 75 #[.slice B ys.length b, .bool false] (0, 0) _ rfl HE.out.1 Tryz.underlying75 rfl info_vote) rfl ⟨B, b, by rw [HM.out]; rfl, HE.out.2.1, HE.out.2.2, fun ad e => by have := HO.out ad e; omega⟩
        · have HM := Lib.hid (show mayV ys false need = decide (need ≤ (ys.length : Int)) from rfl)
          go_wp2_with fail
          go_region
          go_wp2_with fail
          have HE := Lib.hid (HS1.out.done HB.out HO.out)
          exact bodyPost_ret (gres_cell_tmp (fn := Tryz.f55) rfl _ _ (w.heap.size + 1) 75 #[.slice B ys.length b, .bool false] (0, 0) _ rfl HE.out.1 Tryz.underlying75 rfl info_vote) rfl ⟨B, b, by rw [HM.out]; rfl, HE.out.2.1, HE.out.2.2, fun ad e => by have := HO.out ad e; omega⟩
set_option maxHeartbeats 4000000 in
set_option maxRecDepth 100000 in
theorem gvote_noN (no : Bool) (who need : Int) (ha : IntsC w A c yes) (hn : yes.length ≤ 12) :
    Calls Tryz.prog 55 #[.agg #[.slice A yes.length c, .bool no], .int .i64 who, .bool false, .int .i64 need] w (VtN w yes true false) := by
  have HA := Lib.hid ha
  clear ha
  go_enter Tryz.func55, Tryz.ntmps55
  go_upto_region 2 with fail
  have HV := Lib.hid (two_votes w A c yes no)
  generalize hW0 : ((w.alloc (.cells #[.slice A yes.length c, .bool no] 75)).alloc (.cells #[.slice none 0 0, .bool false] 75)) = W0 at *
  clear hW0
  have HI := Lib.hid (HA.out.later HV.out.2.2.1)
  have x0 := cellH HV.out.1 0
  simp at x0
  have HC := Lib.hid (gclone_is HI.out (by omega))
  go_wp2_with fail
  refine HC.out.mono ?_
  rintro e w1 ⟨B, b, rfl, hB, hO, hb⟩
  have hr1 := later_at hb HV.out.2.1
  have y0 := cellH hr1 0
  have y1 := cellH hr1 1
  have g0 := freeH hr1
  have HR1 := Lib.hid hr1
  have HB := Lib.hid hB
  have HO := Lib.hid hO
  have HBW := Lib.hid (below_step HV.out.2.2.1 hb)
  have HZ := Lib.hid HV.out.2.2.2
  simp at y0 y1
  clear hb hB hO hr1 HC x0 HI HV HA
  go_wp2_with fail
  exact bodyPost_ret (gres_cell_tmp (fn := Tryz.f55) rfl _ _ (w.heap.size + 1) 75 #[.slice B yes.length b, .bool true] (0, 0) _ rfl (by rw [row_set (row_set HR1.out)]; rfl) Tryz.underlying75 rfl info_vote) rfl ⟨B, b, rfl, HB.out.same (fun ad e => (row_keep12 (by have := HO.out ad e; have := HZ.out; omega)).trans (row_keep12 (by have := HO.out ad e; have := HZ.out; omega))), (HBW.out.setCell (p := ⟨w.heap.size + 1, 0, none⟩) (Nat.le_succ _) _).setCell (p := ⟨w.heap.size + 1, 1, none⟩) (Nat.le_succ _) _, fun ad e => by have := HO.out ad e; have := HZ.out; omega⟩
theorem gvote_yes (no : Bool) (who need : Int) (ha : IntsC w A c yes) (hr : RisL yes) :
    Calls Tryz.prog 55 #[.agg #[.slice A yes.length c, .bool no], .int .i64 who, .bool true, .int .i64 need] w (VtP w (yesV yes who true) no (mayV (yesV yes who true) no need)) := (gvote_yesN no who need ha hr).mono fun _ _ h => h.vtp
theorem gvote_no (no : Bool) (who need : Int) (ha : IntsC w A c yes) (hn : yes.length ≤ 12) :
    Calls Tryz.prog 55 #[.agg #[.slice A yes.length c, .bool no], .int .i64 who, .bool false, .int .i64 need] w (VtP w yes true false) := (gvote_noN no who need ha hn).mono fun _ _ h => h.vtp
/-- A vote, of either kind: what it leaves is new. -/
theorem gvote_any (no is : Bool) (who need : Int) (ha : IntsC w A c yes) (hr : RisL yes) :
    Calls Tryz.prog 55 #[.agg #[.slice A yes.length c, .bool no], .int .i64 who, .bool is, .int .i64 need] w (VtN w (yesV yes who is) (noV no is) (mayV (yesV yes who is) (noV no is) need)) := by
  cases is with
  | true => rw [show noV no true = no by simp [noV]]; exact gvote_yesN no who need ha hr
  | false => rw [show noV no false = true by simp [noV]]; exact gvote_noN no who need ha hr.len
end
end Go.Proofs.YtfjaibaidpbppaaGreatDoor
