/-
  mayStand: which words begin pairs; names: a word as names, each once. Conditions: texts up to a million bytes. What a line told so far, in memory; what its pairs' values do; whether it is whole. Conditions: what the library's variables hold, texts up to a million bytes. pair: a line takes one more pair. Conditions: what the library's variables hold, texts up to a million bytes.
-/
import Derived.Test.YtcfnmjhelhdobaaGreatDoorMdC
import Derived.Test.YtcfnmjhelhdobaaGreatDoorLexY
import Derived.Test.YtcfnmjhelhdobaaGreatDoorLexM
import Derived.Test.YtcfnmjhelhdobaaGreatDoorManE
import Derived.Test.YtcfnmjhelhdobaaGreatDoorLexO
import Derived.Test.YtcfnmjhelhdobaaGreatDoorPhaseC
import Derived.BigQuiet
import Derived.Deep.QuietTactic
namespace Go.Proofs.YtcfnmjhelhdobaaGreatDoor
open Go.RowKit

set_option maxHeartbeats 2000000 in
set_option maxRecDepth 100000 in
theorem maystand_gate (s : ByteArray) (r : Bool) (hr : r = memB s (wordsP true)) (w : World) : Calls Tryz.prog 80 #[.string s, .string sGate] w fun e w' => e = .returned (.bool r) ∧ w = w' := by
  by_cases h0 : s = sTo
  · subst h0
    obtain rfl : r = true := by rw [hr]; decide
    clear hr
    go_enter Tryz.func80, Tryz.ntmps80
    go_wp2_with fail
    go_ret
    exact ⟨rfl, rfl⟩
  · have q0 : (s.toList == [116, 111]) = false := (ba_list (t := sTo) rfl).trans (decide_eq_false h0)
    by_cases h1 : s = sNeed
    · subst h1
      obtain rfl : r = true := by rw [hr]; decide
      clear hr
      go_enter Tryz.func80, Tryz.ntmps80
      go_wp2_with fail
      go_ret
      exact ⟨rfl, rfl⟩
    · have q1 : (s.toList == [110, 101, 101, 100]) = false := (ba_list (t := sNeed) rfl).trans (decide_eq_false h1)
      by_cases h2 : s = sRetry
      · subst h2
        obtain rfl : r = false := by rw [hr]; decide
        clear hr
        go_enter Tryz.func80, Tryz.ntmps80
        go_wp2_with fail
        go_ret
        exact ⟨rfl, rfl⟩
      · have q2 : (s.toList == [114, 101, 116, 114, 121]) = false := (ba_list (t := sRetry) rfl).trans (decide_eq_false h2)
        by_cases h3 : s = sAfter
        · subst h3
          obtain rfl : r = true := by rw [hr]; decide
          clear hr
          go_enter Tryz.func80, Tryz.ntmps80
          go_wp2_with fail
          go_ret
          exact ⟨rfl, rfl⟩
        · have q3 : (s.toList == [97, 102, 116, 101, 114]) = false := (ba_list (t := sAfter) rfl).trans (decide_eq_false h3)
          by_cases h4 : s = sTime
          · subst h4
            obtain rfl : r = true := by rw [hr]; decide
            clear hr
            go_enter Tryz.func80, Tryz.ntmps80
            go_wp2_with fail
            go_ret
            exact ⟨rfl, rfl⟩
          · have q4 : (s.toList == [116, 105, 109, 101]) = false := (ba_list (t := sTime) rfl).trans (decide_eq_false h4)
            obtain rfl : r = false := by
              rw [hr]
              exact Bool.eq_false_iff.2 (fun e => by
                rw [memB_iff] at e
                simp only [wordsP, if_true, List.mem_cons, List.not_mem_nil, or_false] at e
                rcases e with e | e | e | e
                · exact h3 e
                · exact h4 e
                · exact h0 e
                · exact h1 e)
            clear hr h0 h1 h2 h3 h4
            go_enter Tryz.func80, Tryz.ntmps80
            go_wp2_with fail
            go_ret
            exact ⟨rfl, rfl⟩
set_option maxHeartbeats 2000000 in
set_option maxRecDepth 100000 in
theorem maystand_task (s : ByteArray) (r : Bool) (hr : r = memB s (wordsP false)) (w : World) : Calls Tryz.prog 80 #[.string s, .string sTask] w fun e w' => e = .returned (.bool r) ∧ w = w' := by
  by_cases h0 : s = sTo
  · subst h0
    obtain rfl : r = false := by rw [hr]; decide
    clear hr
    go_enter Tryz.func80, Tryz.ntmps80
    go_wp2_with fail
    go_ret
    exact ⟨rfl, rfl⟩
  · have q0 : (s.toList == [116, 111]) = false := (ba_list (t := sTo) rfl).trans (decide_eq_false h0)
    by_cases h1 : s = sNeed
    · subst h1
      obtain rfl : r = false := by rw [hr]; decide
      clear hr
      go_enter Tryz.func80, Tryz.ntmps80
      go_wp2_with fail
      go_ret
      exact ⟨rfl, rfl⟩
    · have q1 : (s.toList == [110, 101, 101, 100]) = false := (ba_list (t := sNeed) rfl).trans (decide_eq_false h1)
      by_cases h2 : s = sRetry
      · subst h2
        obtain rfl : r = true := by rw [hr]; decide
        clear hr
        go_enter Tryz.func80, Tryz.ntmps80
        go_wp2_with fail
        go_ret
        exact ⟨rfl, rfl⟩
      · have q2 : (s.toList == [114, 101, 116, 114, 121]) = false := (ba_list (t := sRetry) rfl).trans (decide_eq_false h2)
        by_cases h3 : s = sAfter
        · subst h3
          obtain rfl : r = true := by rw [hr]; decide
          clear hr
          go_enter Tryz.func80, Tryz.ntmps80
          go_wp2_with fail
          go_ret
          exact ⟨rfl, rfl⟩
        · have q3 : (s.toList == [97, 102, 116, 101, 114]) = false := (ba_list (t := sAfter) rfl).trans (decide_eq_false h3)
          by_cases h4 : s = sTime
          · subst h4
            obtain rfl : r = true := by rw [hr]; decide
            clear hr
            go_enter Tryz.func80, Tryz.ntmps80
            go_wp2_with fail
            go_ret
            exact ⟨rfl, rfl⟩
          · have q4 : (s.toList == [116, 105, 109, 101]) = false := (ba_list (t := sTime) rfl).trans (decide_eq_false h4)
            obtain rfl : r = false := by
              rw [hr]
              exact Bool.eq_false_iff.2 (fun e => by
                rw [memB_iff] at e
                simp only [wordsP, if_false, Bool.false_eq_true, List.mem_cons, List.not_mem_nil, or_false] at e
                rcases e with e | e | e
                · exact h3 e
                · exact h4 e
                · exact h2 e)
            clear hr h0 h1 h2 h3 h4
            go_enter Tryz.func80, Tryz.ntmps80
            go_wp2_with fail
            go_ret
            exact ⟨rfl, rfl⟩

/-- The words l in a row of words at A, whatever else is done to other kinds of blocks. -/
def WdsM (w : World) (A : Option Addr) (l : List Wd) : Prop := 0 < l.length → ∃ g cur, A = some ⟨g, 0, none⟩ ∧ w.heap[g]? = some (.cells cur 81 (0, 0)) ∧ cur.toList.take (l.length * 2) = wdCells l
theorem WdsM.wds {w : World} {A : Option Addr} {l : List Wd} (h : WdsM w A l) : WdsAt w A l := fun hn => by
  obtain ⟨g, cur, rfl, h1, h2⟩ := h hn
  exact wds_of h1 h2 hn
theorem WdsM.frame {w w' : World} {A : Option Addr} {l : List Wd} (h : WdsM w A l) (hf : ∀ (g : Nat) (cur : Array Value), w.heap[g]? = some (.cells cur 81 (0, 0)) → w'.heap[g]? = w.heap[g]?) : WdsM w' A l := fun hn => by
  obtain ⟨g, cur, e, h1, h2⟩ := h hn
  exact ⟨g, cur, e, (hf g cur h1).trans h1, h2⟩
theorem WdsM.later {w w' : World} {A : Option Addr} {l : List Wd} (h : WdsM w A l) (hb : Below w.heap.size w w') : WdsM w' A l :=
  h.frame (fun g _ hg => hb.block g (Array.getElem?_eq_some_iff.1 hg).1)
theorem SetIs.isMap {w : World} {b q : Nat} {l : List ByteArray} (h : SetIs w b q l) : ∃ es clock, w.heap[b]? = some (.map es clock) := by
  obtain ⟨D, ⟨es, clock, h1, _⟩, _⟩ := h
  exact ⟨es, clock, h1⟩
/-- Cells stay over what is done to a set. -/
theorem SetIs.other {w w' : World} {b q : Nat} {l : List ByteArray} (h : SetIs w b q l) (ha : Apart (fun i => i = b) w w') {g : Nat} {cs : Array Value} {t : TypeId} {m : Nat × Nat} (hg : w.heap[g]? = some (.cells cs t m)) : w'.heap[g]? = w.heap[g]? := by
  refine ha.block g (Array.getElem?_eq_some_iff.1 hg).1 (fun e => ?_)
  obtain ⟨es, clock, h1⟩ := h.isMap
  rw [e, h1] at hg
  cases hg
theorem WdsM.own {w : World} {base n : Nat} {v : Value} {l : List Wd} (h : w.ownsRow base 81 2 v n (wdCells l)) : ∃ A c, v = .slice A l.length c ∧ WdsM w A l := by
  have hl := h.1
  rw [wdCells_len] at hl
  have hn : l.length = n := by omega
  rcases h.2 with ⟨rfl, e⟩ | ⟨g, cap, cur, rfl, _, hq, _, _, _, ht⟩
  · exact ⟨none, 0, by rw [hn, e], fun h0 => absurd h0 (by omega)⟩
  · exact ⟨_, cap, by rw [hn], fun _ => ⟨g, cur, rfl, hq, by rw [hn]; exact ht⟩⟩

theorem first_ok : ∀ (ps out l : List Wd), firstNo out ps = .inl l → ∀ x ∈ l, x ∈ out ∨ nameP x.t = true
  | [], out, l, h, x, hx => by
    rw [firstNo] at h
    injection h with h
    subst h
    exact .inl hx
  | y :: r, out, l, h, x, hx => by
    rw [firstNo] at h
    split at h
    · rename_i hy
      rcases first_ok r _ l h x hx with h1 | h1
      · rcases List.mem_append.1 h1 with h2 | h2
        · exact .inl h2
        · obtain rfl := List.mem_singleton.1 h2
          exact .inr hy
      · exact .inr h1
    · cases h
theorem names_ok {t : ByteArray} {p : Nat} {l : List Wd} (h : namesP ⟨t, p⟩ = .inl l) : ∀ x ∈ l, x.t.size ≤ 8 := by
  rw [namesP_parts] at h
  intro x hx
  rcases first_ok _ _ _ h x hx with h1 | h1
  · cases h1
  · exact (of_decide_eq_true h1).2.1
theorem names_len {t : ByteArray} {p : Nat} {l : List Wd} (h : namesP ⟨t, p⟩ = .inl l) : l.length ≤ t.size + 1 := by
  have := namesGo_len t p t.size 0 0 [] l h
  simpa using this
/-- What names answers. -/
def namesR (w : Wd) : FaP ⊕ List Wd := match namesP w with
  | .inr p => .inl ⟨15, p⟩
  | .inl l => match dupP l with
    | some p => .inl ⟨7, p⟩
    | none => .inr l
def NamesM (w : World) (r : FaP ⊕ List Wd) (e : Ending) (w' : World) : Prop := Below w.heap.size w w' ∧ match r with
  | .inl f => ∃ F, e = .returned (.tuple #[.slice none 0 0, fltV F]) ∧ FaultAt w' F f.p f.e
  | .inr l => ∃ A c, e = .returned (.tuple #[.slice A l.length c, .nilIface]) ∧ WdsM w' A l
theorem dup_step {l : List Wd} {k : Nat} {x : Wd} (hx : l[k]? = some x) : dupGo l (l.length - k) k = if memB x.t ((l.take k).map (·.t)) then some x.p else dupGo l (l.length - (k + 1)) (k + 1) := by
  have hk := (List.getElem?_eq_some_iff.1 hx).1
  rw [show l.length - k = (l.length - (k + 1)) + 1 by omega, dupGo]
  simp [List.getD_eq_getElem?_getD, hx]
theorem texts_next {l : List Wd} {k : Nat} {x : Wd} (hx : l[k]? = some x) : (l.take (k + 1)).map (·.t) = (l.take k).map (·.t) ++ [x.t] := by
  rw [List.take_add_one, hx]
  simp
def NmI (w : World) (A : Option Addr) (l : List Wd) (M k : Nat) (W : World) : Prop := Below w.heap.size w W ∧ WdsM W A l ∧ SetIs W M k ((l.take k).map (·.t))
set_option maxHeartbeats 2000000 in
set_option maxRecDepth 100000 in
theorem mnames_is (w : World) (t : ByteArray) (p : Nat) (hl : p + t.size ≤ 900000) (r : FaP ⊕ List Wd) (hr : r = namesR ⟨t, p⟩) : Calls Tryz.prog 91 #[wdV t p] w (NamesM w r) := by
  have HR := Lib.hid hr
  have l0 := (Below.refl w.heap.size w).alloc (Nat.le_refl _) (.cells #[.string t, .int .i64 p] 81)
  have HB0 := Lib.hid l0
  have HX := Lib.hid (made_at w (.cells #[.string t, .int .i64 p] 81))
  obtain ⟨q, hq⟩ : ∃ q, q = namesP ⟨t, p⟩ := ⟨_, rfl⟩
  have HN := Lib.hid (fun x : World => names_p x t p (by omega))
  rw [← hq] at HN
  have HQ := Lib.hid hq
  have hmm := @run_makeMap Tryz.prog
  clear hr l0 hq
  go_enter Tryz.func91, Tryz.ntmps91
  go_upto_region 1 with fail
  generalize hW0 : (w.alloc (.cells #[.string t, .int .i64 p] 81)) = W0 at *
  clear hW0
  have x0 := cellH HX.out 0
  have x1 := cellH HX.out 1
  simp at x0 x1
  go_wp2_with fail
  cases q with
  | inr q =>
    refine (HN.out _).mono ?_
    rintro e w1 ⟨hb1, F, rfl, hF⟩
    have HB1 := Lib.hid (below_step HB0.out hb1)
    have HF := Lib.hid hF
    have HV := Lib.hid (show r = .inl ⟨15, q⟩ by rw [HR.out, namesR, ← HQ.out])
    clear hb1 hF x0 x1
    unfold fltV
    go_wp2_with fail
    refine bodyPost_ret (results_two rfl _ _ _) rfl ?_
    rw [HV.out]
    exact ⟨HB1.out, F, rfl, HF.out⟩
  | inl l =>
    refine (HN.out _).mono ?_
    rintro e w1 ⟨hb1, v, rfl, hown⟩
    obtain ⟨A, c, rfl, hwd⟩ := WdsM.own hown
    have hok := names_ok HQ.out.symm
    have hln := names_len HQ.out.symm
    have b2 := (Below.refl w1.heap.size w1).alloc (Nat.le_refl _) (.map #[] 0)
    have HI := Lib.hid (show NmI w A l w1.heap.size 0 (w1.alloc (.map #[] 0)) from ⟨below_step (below_step HB0.out hb1) b2, hwd.later b2, SetIs.made w1⟩)
    have HOK := Lib.hid hok
    have HV := Lib.hid (show r = match dupP l with
      | some p => .inl ⟨7, p⟩
      | none => .inr l by rw [HR.out, namesR, ← HQ.out])
    have HPM := Lib.hid (show w.heap.size ≤ w1.heap.size from (below_step HB0.out hb1).size)
    have HLN := Lib.hid (show l.length ≤ 900001 by omega)
    clear hb1 hown hwd hok hln b2 x0 x1
    go_wp2_with fail
    go_loopw [20] (fun i wr => ∃ k : Nat, i = .int .i64 k ∧ k ≤ l.length ∧ Hid (dupP l = dupGo l (l.length - k) k) ∧ Hid (NmI w A l w1.heap.size k wr)) (fun i _ => l.length - (intOf i).toNat)
    case atStart => exact ⟨0, rfl, Nat.zero_le _, rfl, HI⟩
    case round =>
      obtain ⟨k, rfl, hk, HD, HW⟩ := hrel
      by_cases hlt : k < l.length
      · obtain ⟨x, hx⟩ : ∃ x, l[k]? = some x := ⟨_, List.getElem?_eq_getElem hlt⟩
        obtain ⟨ad, rfl, y0, y1⟩ := HW.out.2.1.wds.at_ hx
        have hds := dup_step hx
        have hxn := HOK.out x (List.mem_of_getElem? hx)
        have HNX := Lib.hid (texts_next hx)
        have hln := HLN.out
        have hk0 : (0 : Int) ≤ (k : Int) := by omega
        have hkl : (k : Int) < (l.length : Int) := by omega
        have hb3 := (Below.refl wr.heap.size wr).alloc (Nat.le_refl _) (.cells #[.string x.t, .int .i64 x.p] 81)
        have HX3 := Lib.hid (made_at wr (.cells #[.string x.t, .int .i64 x.p] 81))
        have HI3 := Lib.hid (show NmI w (some ad) l w1.heap.size k (wr.alloc (.cells #[.string x.t, .int .i64 x.p] 81)) from ⟨below_step HW.out.1 hb3, HW.out.2.1.later hb3, HW.out.2.2.later hb3⟩)
        have hpb : (ad.add (k * 2)).block < wr.heap.size := World.block_lt_of_cell? wr _ y0
        have had := fun (m : Bool) (hm : m = memB x.t ((l.take k).map (·.t))) => show Calls Tryz.prog 31 #[.map (some w1.heap.size), .string x.t] (wr.alloc (.cells #[.string x.t, .int .i64 x.p] 81)) (fun e w' => e = .returned (.bool (!m)) ∧ Apart (fun i => i = w1.heap.size) (wr.alloc (.cells #[.string x.t, .int .i64 x.p] 81)) w' ∧ SetIs w' w1.heap.size (k + 1) (if m then (l.take k).map (·.t) else (l.take k).map (·.t) ++ [x.t])) by
          have h := add_is HI3.out.2.2 (by omega) x.t (by omega)
          rw [← hm] at h
          exact h
        obtain ⟨m, hm⟩ : ∃ m, m = memB x.t ((l.take k).map (·.t)) := ⟨_, rfl⟩
        have HAD := Lib.hid (had m hm)
        rw [← hm] at hds
        have HDS := Lib.hid (HD.out.trans hds)
        clear hb3 had hm hds hx HW HD
        go_upto_region 8 with fail
        generalize hW3 : (wr.alloc (.cells #[.string x.t, .int .i64 x.p] 81)) = W3 at *
        clear hW3 y0 y1
        have z0 := cellH HX3.out 0
        have z1 := cellH HX3.out 1
        simp at z0 z1
        go_wp2_with fail
        refine HAD.out.mono ?_
        rintro e w4 ⟨rfl, hap, hs4⟩
        have hpm := HPM.out
        have hx4 := (HI3.out.2.2.other hap HX3.out).trans HX3.out
        have HB4 := Lib.hid (HI3.out.1.trans (hap.below (n := w.heap.size) (fun b e => by omega) HI3.out.1.size))
        have HWD4 := Lib.hid (HI3.out.2.1.frame (fun g cur hg => HI3.out.2.2.other hap hg))
        have HS4 := Lib.hid hs4
        clear z0 z1
        have z1 := cellH hx4 1
        simp at z1
        clear hap hs4 hpm hx4 HAD HI3
        cases m with
        | true =>
          have HFT := Lib.hid (fun W : World => mfault_is W x.p 7)
          go_wp2_with fail
          refine (HFT.out _).mono ?_
          rintro e w5 ⟨F, rfl, hF, _, hb5⟩
          have HB5 := Lib.hid (below_step HB4.out hb5)
          have HF := Lib.hid hF
          have HV2 := Lib.hid (show r = .inl ⟨7, x.p⟩ by rw [HV.out, HDS.out]; rfl)
          clear hb5 hF
          unfold fltV
          go_wp2_with fail
          refine bodyPost_ret (results_two rfl _ _ _) rfl ?_
          rw [HV2.out]
          exact ⟨HB5.out, F, rfl, HF.out⟩
        | false =>
          have HI4 := Lib.hid (show NmI w (some ad) l w1.heap.size (k + 1) w4 from ⟨HB4.out, HWD4.out, by rw [HNX.out]; exact HS4.out⟩)
          go_wp2_with fail
          go_roundw
          case rel => exact ⟨k + 1, by go_num, by omega, HDS, HI4⟩
          case measure => simp [intOf]; omega
      · have hke : k = l.length := by omega
        subst hke
        have HV2 := Lib.hid (show r = .inr l by rw [HV.out, HD.out, Nat.sub_self, dupGo])
        go_wp2_with fail
        refine bodyPost_ret (results_two rfl _ _ _) rfl ?_
        rw [HV2.out]
        exact ⟨HW.out.1, A, c, rfl, HW.out.2.1⟩
end Go.Proofs.YtcfnmjhelhdobaaGreatDoor

namespace Go.Proofs.YtcfnmjhelhdobaaGreatDoor
open Go.RowKit

/-- A line's cells. -/
def lmC (kind : ByteArray) (M : Nat) (x : LnP) (av : Value) : Array Value := #[.string kind, .map (some M), .string x.name, .slice none 0 0, .int .i64 x.retry, .int .i64 x.time, .int .i64 x.need, .int .i64 x.lv, .int .u16 x.st, av]
structure MLn (w : World) (X M q : Nat) (kind : ByteArray) (seen : List ByteArray) (x : LnP) (av : Value) : Prop where
  row : w.heap[X]? = some (.cells (lmC kind M x av) 123 (0, 0))
  set : SetIs w M q seen
  aft : ∃ A c, av = .slice A x.after.length c ∧ WdsM w A x.after
section
variable {w w' : World} {X M q : Nat} {kind : ByteArray} {seen : List ByteArray} {x : LnP} {av : Value}
theorem MLn.later (h : MLn w X M q kind seen x av) (hb : Below w.heap.size w w') : MLn w' X M q kind seen x av := by
  obtain ⟨A, c, e, hA⟩ := h.aft
  exact ⟨later_at hb h.row, h.set.later hb, A, c, e, hA.later hb⟩
theorem MLn.ne (h : MLn w X M q kind seen x av) : X ≠ M := by
  intro e
  obtain ⟨es, clock, h1⟩ := h.set.isMap
  rw [← e, h.row] at h1
  cases h1
theorem wdsm_set {A : Option Addr} {l : List Wd} {i : Nat} {cs : Array Value} {t : TypeId} {m : Nat × Nat} {v : Value} (h : WdsM w A l) (hX : w.heap[X]? = some (.cells cs t m)) (ht : t ≠ 81) : WdsM (w.setCell ⟨X, i, none⟩ v) A l :=
  h.frame (fun g cur hg => Below.heap_setCell w ⟨X, i, none⟩ v g (by
    show g ≠ X
    rintro rfl
    rw [hX] at hg
    injection hg with hg
    injection hg with _ h2
    exact ht h2))
/-- One cell of the line is another one. -/
theorem MLn.setc (h : MLn w X M q kind seen x av) {i : Nat} {v : Value} {y : LnP} (hy : (lmC kind M x av).setIfInBounds i v = lmC kind M y av) (ha : y.after = x.after) : MLn (w.setCell ⟨X, i, none⟩ v) X M q kind seen y av := by
  obtain ⟨A, c, e, hA⟩ := h.aft
  refine ⟨(row_set h.row).trans (by rw [hy]), h.set.block (Below.heap_setCell w ⟨X, i, none⟩ v M (by simpa using h.ne.symm)), A, c, by rw [ha]; exact e, ?_⟩
  rw [ha]
  exact wdsm_set hA h.row (by decide)
/-- What value answers. -/
def VlOut (w : World) (X M q : Nat) (kind : ByteArray) (seen : List ByteArray) (r : FaP ⊕ LnP) (e : Ending) (w' : World) : Prop := Only1 X w w' ∧ match r with
  | .inl f => ∃ F, e = .returned (fltV F) ∧ FaultAt w' F f.p f.e
  | .inr y => e = .returned .nilIface ∧ ∃ av, MLn w' X M q kind seen y av
theorem flt_set {cs : Array Value} {m : Nat × Nat} {F : Nat} {a e : Int} {i : Nat} {v : Value} (h : FaultAt w F a e) (hX : w.heap[X]? = some (.cells cs 123 m)) : FaultAt (w.setCell ⟨X, i, none⟩ v) F a e :=
  (Below.heap_setCell w ⟨X, i, none⟩ v F (by
    show F ≠ X
    rintro rfl
    unfold FaultAt at h
    rw [hX] at h
    injection h with h
    injection h with _ h2
    exact absurd h2 (by decide))).trans h
def aftR (x : LnP) : FaP ⊕ List Wd → FaP ⊕ LnP
  | .inl f => .inl f
  | .inr l => .inr { x with after := l }
theorem aft_names (x : LnP) (t : ByteArray) (p : Nat) : aftR x (namesR ⟨t, p⟩) = (match namesP ⟨t, p⟩ with
    | .inr p => .inl ⟨15, p⟩
    | .inl l => match dupP l with
      | some p => .inl ⟨7, p⟩
      | none => .inr { x with after := l }) := by
  rw [namesR]
  cases namesP ⟨t, p⟩ with
  | inr _ => rfl
  | inl l => simp only; cases dupP l <;> rfl
set_option maxHeartbeats 1000000 in
set_option maxRecDepth 100000 in
theorem mvalue_retry (hV : VarL w) (h : MLn w X M q kind seen x av) (t : ByteArray) (p : Nat) (ht : p + t.size ≤ 900000) : Calls Tryz.prog 81 #[.pointer (some ⟨X, 0, none⟩), .string sRetry, wdV t p] w (VlOut w X M q kind seen (match numP t 0 5 with
    | none => .inl ⟨16, p⟩
    | some n => .inr { x with retry := n })) := by
  obtain ⟨r, hr⟩ : ∃ r, r = numP t 0 5 := ⟨_, rfl⟩
  rw [← hr]
  have RN := Lib.hid (fun (x : World) (hx : Below w.heap.size w x) => number_is (hV.later hx).v t p 0 5 (by omega))
  rw [← hr] at RN
  clear hr
  have l0 := (Below.refl w.heap.size w).alloc (Nat.le_refl _) (.cells #[.string t, .int .i64 p] 81)
  have HZ := Lib.hid (made_at w (.cells #[.string t, .int .i64 p] 81))
  have HL := Lib.hid (h.later l0)
  have HO := Lib.hid (Only1.of_below (R := X) l0)
  have HB := Lib.hid l0
  clear l0 h hV
  have z0 := cellH HZ.out 0
  have z1 := cellH HZ.out 1
  simp at z0 z1
  go_enter Tryz.func81, Tryz.ntmps81
  go_wp2_with fail
  refine (RN.out _ HB.out).mono ?_
  cases r with
  | none =>
    rintro e w1 ⟨hb1, F, rfl, hF⟩
    have HL1 := Lib.hid (HL.out.later hb1)
    have HO1 := Lib.hid (HO.out.below hb1)
    have HF := Lib.hid hF
    clear hb1 hF z0 z1
    have xf := freeH HL1.out.row
    have x4 := cellH HL1.out.row 4
    simp [lmC] at x4
    unfold fltV
    go_wp2_with fail
    go_ret
    exact ⟨HO1.out.set _, F, rfl, flt_set HF.out HL1.out.row⟩
  | some n =>
    rintro e w1 ⟨hb1, rfl⟩
    have HL1 := Lib.hid (HL.out.later hb1)
    have HO1 := Lib.hid (HO.out.below hb1)
    clear hb1 z0 z1
    have xf := freeH HL1.out.row
    have x4 := cellH HL1.out.row 4
    simp [lmC] at x4
    go_wp2_with fail
    go_ret
    exact ⟨HO1.out.set _, rfl, av, HL1.out.setc rfl rfl⟩
set_option maxHeartbeats 1000000 in
set_option maxRecDepth 100000 in
theorem mvalue_time (hV : VarL w) (h : MLn w X M q kind seen x av) (t : ByteArray) (p : Nat) (ht : p + t.size ≤ 900000) : Calls Tryz.prog 81 #[.pointer (some ⟨X, 0, none⟩), .string sTime, wdV t p] w (VlOut w X M q kind seen (match numP t 1 100 with
    | none => .inl ⟨16, p⟩
    | some n => .inr { x with time := n })) := by
  obtain ⟨r, hr⟩ : ∃ r, r = numP t 1 100 := ⟨_, rfl⟩
  rw [← hr]
  have RN := Lib.hid (fun (x : World) (hx : Below w.heap.size w x) => number_is (hV.later hx).v t p 1 100 (by omega))
  rw [← hr] at RN
  clear hr
  have l0 := (Below.refl w.heap.size w).alloc (Nat.le_refl _) (.cells #[.string t, .int .i64 p] 81)
  have HZ := Lib.hid (made_at w (.cells #[.string t, .int .i64 p] 81))
  have HL := Lib.hid (h.later l0)
  have HO := Lib.hid (Only1.of_below (R := X) l0)
  have HB := Lib.hid l0
  clear l0 h hV
  have z0 := cellH HZ.out 0
  have z1 := cellH HZ.out 1
  simp at z0 z1
  go_enter Tryz.func81, Tryz.ntmps81
  go_wp2_with fail
  refine (RN.out _ HB.out).mono ?_
  cases r with
  | none =>
    rintro e w1 ⟨hb1, F, rfl, hF⟩
    have HL1 := Lib.hid (HL.out.later hb1)
    have HO1 := Lib.hid (HO.out.below hb1)
    have HF := Lib.hid hF
    clear hb1 hF z0 z1
    have xf := freeH HL1.out.row
    have x5 := cellH HL1.out.row 5
    simp [lmC] at x5
    unfold fltV
    go_wp2_with fail
    go_ret
    exact ⟨HO1.out.set _, F, rfl, flt_set HF.out HL1.out.row⟩
  | some n =>
    rintro e w1 ⟨hb1, rfl⟩
    have HL1 := Lib.hid (HL.out.later hb1)
    have HO1 := Lib.hid (HO.out.below hb1)
    clear hb1 z0 z1
    have xf := freeH HL1.out.row
    have x5 := cellH HL1.out.row 5
    simp [lmC] at x5
    go_wp2_with fail
    go_ret
    exact ⟨HO1.out.set _, rfl, av, HL1.out.setc rfl rfl⟩
set_option maxHeartbeats 1000000 in
set_option maxRecDepth 100000 in
theorem mvalue_need (hV : VarL w) (h : MLn w X M q kind seen x av) (t : ByteArray) (p : Nat) (ht : p + t.size ≤ 900000) : Calls Tryz.prog 81 #[.pointer (some ⟨X, 0, none⟩), .string sNeed, wdV t p] w (VlOut w X M q kind seen (match numP t 1 4 with
    | none => .inl ⟨16, p⟩
    | some n => .inr { x with need := n })) := by
  obtain ⟨r, hr⟩ : ∃ r, r = numP t 1 4 := ⟨_, rfl⟩
  rw [← hr]
  have RN := Lib.hid (fun (x : World) (hx : Below w.heap.size w x) => number_is (hV.later hx).v t p 1 4 (by omega))
  rw [← hr] at RN
  clear hr
  have l0 := (Below.refl w.heap.size w).alloc (Nat.le_refl _) (.cells #[.string t, .int .i64 p] 81)
  have HZ := Lib.hid (made_at w (.cells #[.string t, .int .i64 p] 81))
  have HL := Lib.hid (h.later l0)
  have HO := Lib.hid (Only1.of_below (R := X) l0)
  have HB := Lib.hid l0
  clear l0 h hV
  have z0 := cellH HZ.out 0
  have z1 := cellH HZ.out 1
  simp at z0 z1
  go_enter Tryz.func81, Tryz.ntmps81
  go_wp2_with fail
  refine (RN.out _ HB.out).mono ?_
  cases r with
  | none =>
    rintro e w1 ⟨hb1, F, rfl, hF⟩
    have HL1 := Lib.hid (HL.out.later hb1)
    have HO1 := Lib.hid (HO.out.below hb1)
    have HF := Lib.hid hF
    clear hb1 hF z0 z1
    have xf := freeH HL1.out.row
    have x6 := cellH HL1.out.row 6
    simp [lmC] at x6
    unfold fltV
    go_wp2_with fail
    go_ret
    exact ⟨HO1.out.set _, F, rfl, flt_set HF.out HL1.out.row⟩
  | some n =>
    rintro e w1 ⟨hb1, rfl⟩
    have HL1 := Lib.hid (HL.out.later hb1)
    have HO1 := Lib.hid (HO.out.below hb1)
    clear hb1 z0 z1
    have xf := freeH HL1.out.row
    have x6 := cellH HL1.out.row 6
    simp [lmC] at x6
    go_wp2_with fail
    go_ret
    exact ⟨HO1.out.set _, rfl, av, HL1.out.setc rfl rfl⟩
set_option maxHeartbeats 1000000 in
set_option maxRecDepth 100000 in
theorem mvalue_to (h : MLn w X M q kind seen x av) (t : ByteArray) (p : Nat) : Calls Tryz.prog 81 #[.pointer (some ⟨X, 0, none⟩), .string sTo, wdV t p] w (VlOut w X M q kind seen (match labP t with
    | none => .inl ⟨3, p⟩
    | some (a, b) => .inr { x with lv := a, st := b })) := by
  obtain ⟨r, hr⟩ : ∃ r, r = labP t := ⟨_, rfl⟩
  rw [← hr]
  have RN := Lib.hid (fun x : World => label_is x t p r hr)
  clear hr
  have l0 := (Below.refl w.heap.size w).alloc (Nat.le_refl _) (.cells #[.string t, .int .i64 p] 81)
  have HZ := Lib.hid (made_at w (.cells #[.string t, .int .i64 p] 81))
  have HL := Lib.hid (h.later l0)
  have HO := Lib.hid (Only1.of_below (R := X) l0)
  clear l0 h
  have z0 := cellH HZ.out 0
  have z1 := cellH HZ.out 1
  simp at z0 z1
  go_enter Tryz.func81, Tryz.ntmps81
  go_wp2_with fail
  refine (RN.out _).mono ?_
  cases r with
  | none =>
    rintro e w1 ⟨hb1, F, rfl, hF⟩
    have HL1 := Lib.hid (HL.out.later hb1)
    have HO1 := Lib.hid (HO.out.below hb1)
    have HF := Lib.hid hF
    clear hb1 hF z0 z1
    have xf := freeH HL1.out.row
    have x7 := cellH HL1.out.row 7
    have x8 := cellH HL1.out.row 8
    simp [lmC] at x7 x8
    unfold fltV
    go_wp2_with fail
    go_ret
    have HL2 := Lib.hid (HL1.out.setc (i := 7) (v := .int .i64 0) (y := { x with lv := 0 }) rfl rfl)
    exact ⟨(HO1.out.set _).set _, F, rfl, flt_set (flt_set HF.out HL1.out.row) HL2.out.row⟩
  | some n =>
    obtain ⟨a, b⟩ := n
    rintro e w1 ⟨hb1, rfl⟩
    have HL1 := Lib.hid (HL.out.later hb1)
    have HO1 := Lib.hid (HO.out.below hb1)
    clear hb1 z0 z1
    have xf := freeH HL1.out.row
    have x7 := cellH HL1.out.row 7
    have x8 := cellH HL1.out.row 8
    simp [lmC] at x7 x8
    go_wp2_with fail
    go_ret
    have HL2 := Lib.hid (HL1.out.setc (i := 7) (v := .int .i64 a) (y := { x with lv := a }) rfl rfl)
    exact ⟨(HO1.out.set _).set _, rfl, av, HL2.out.setc rfl rfl⟩
set_option maxHeartbeats 1000000 in
set_option maxRecDepth 100000 in
theorem mvalue_after (h : MLn w X M q kind seen x av) (t : ByteArray) (p : Nat) (ht : p + t.size ≤ 900000) : Calls Tryz.prog 81 #[.pointer (some ⟨X, 0, none⟩), .string sAfter, wdV t p] w (VlOut w X M q kind seen (match namesP ⟨t, p⟩ with
    | .inr p => .inl ⟨15, p⟩
    | .inl l => match dupP l with
      | some p => .inl ⟨7, p⟩
      | none => .inr { x with after := l })) := by
  obtain ⟨r, hr⟩ : ∃ r, r = namesR ⟨t, p⟩ := ⟨_, rfl⟩
  have RN := Lib.hid (fun x : World => mnames_is x t p ht r hr)
  rw [← aft_names, ← hr]
  clear hr
  have l0 := (Below.refl w.heap.size w).alloc (Nat.le_refl _) (.cells #[.string t, .int .i64 p] 81)
  have HZ := Lib.hid (made_at w (.cells #[.string t, .int .i64 p] 81))
  have HL := Lib.hid (h.later l0)
  have HO := Lib.hid (Only1.of_below (R := X) l0)
  clear l0 h
  have z0 := cellH HZ.out 0
  have z1 := cellH HZ.out 1
  simp at z0 z1
  go_enter Tryz.func81, Tryz.ntmps81
  go_wp2_with fail
  refine (RN.out _).mono ?_
  cases r with
  | inl f =>
    rintro e w1 ⟨hb1, F, rfl, hF⟩
    have HL1 := Lib.hid (HL.out.later hb1)
    have HO1 := Lib.hid (HO.out.below hb1)
    have HF := Lib.hid hF
    clear hb1 hF z0 z1
    have xf := freeH HL1.out.row
    have x9 := cellH HL1.out.row 9
    simp [lmC] at x9
    unfold fltV
    go_wp2_with fail
    go_ret
    exact ⟨HO1.out.set _, F, rfl, flt_set HF.out HL1.out.row⟩
  | inr l =>
    rintro e w1 ⟨hb1, A, c, rfl, hA⟩
    have HL1 := Lib.hid (HL.out.later hb1)
    have HO1 := Lib.hid (HO.out.below hb1)
    have HA := Lib.hid hA
    clear hb1 z0 z1 hA
    have xf := freeH HL1.out.row
    have x9 := cellH HL1.out.row 9
    simp [lmC] at x9
    go_wp2_with fail
    go_ret
    exact ⟨HO1.out.set _, rfl, .slice A l.length c, (row_set HL1.out.row).trans rfl, HL1.out.set.block (Below.heap_setCell w1 ⟨X, 9, none⟩ _ M (by simpa using HL1.out.ne.symm)), A, c, rfl, wdsm_set HA.out HL1.out.row (by decide)⟩
/-- What a pair's value does, of a word that may stand there. -/
theorem mvalue_is (hV : VarL w) (h : MLn w X M q kind seen x av) {g : Bool} {word : ByteArray} (hw : memB word (wordsP g) = true) (t : ByteArray) (p : Nat) (ht : p + t.size ≤ 900000) :
    Calls Tryz.prog 81 #[.pointer (some ⟨X, 0, none⟩), .string word, wdV t p] w (VlOut w X M q kind seen (valueP x word ⟨t, p⟩)) := by
  rw [memB_iff] at hw
  have hc : word = sAfter ∨ word = sTime ∨ word = sTo ∨ word = sNeed ∨ word = sRetry := by
    cases g <;> simp [wordsP] at hw <;> grind
  rcases hc with rfl | rfl | rfl | rfl | rfl
  · exact mvalue_after h t p ht
  · exact mvalue_time hV h t p ht
  · exact mvalue_to h t p
  · exact mvalue_need hV h t p ht
  · exact mvalue_retry hV h t p ht
end
end Go.Proofs.YtcfnmjhelhdobaaGreatDoor

namespace Go.Proofs.YtcfnmjhelhdobaaGreatDoor
open Go.RowKit

def kindB (g : Bool) : ByteArray := if g then sGate else sTask
theorem maystand_is (s : ByteArray) (g r : Bool) (hr : r = memB s (wordsP g)) (w : World) : Calls Tryz.prog 80 #[.string s, .string (kindB g)] w fun e w' => e = .returned (.bool r) ∧ w = w' := by
  cases g with
  | true => exact maystand_gate s r hr w
  | false => exact maystand_task s r hr w
def goR (s : List ByteArray) : FaP ⊕ LnP → FaP ⊕ (LnP × List ByteArray)
  | .inl e => .inl e
  | .inr x => .inr (x, s)
/-- What one pair does. -/
def pairR (g : Bool) (seen : List ByteArray) (x : LnP) : List Wd → FaP ⊕ (LnP × List ByteArray)
  | [] => .inr (x, seen)
  | [a] => if memB a.t (wordsP g) = false then .inl ⟨17, a.p⟩ else if memB a.t seen then .inl ⟨7, a.p⟩ else .inl ⟨3, a.p⟩
  | a :: b :: _ => if memB a.t (wordsP g) = false then .inl ⟨17, a.p⟩ else if memB a.t seen then .inl ⟨7, a.p⟩ else goR (seen ++ [a.t]) (valueP x a.t b)
theorem pairR_word {g : Bool} {seen : List ByteArray} {x : LnP} {a : Wd} {r : List Wd} (h : memB a.t (wordsP g) = false) : pairR g seen x (a :: r) = .inl ⟨17, a.p⟩ := by
  cases r <;> simp [pairR, h]
theorem pairR_once {g : Bool} {seen : List ByteArray} {x : LnP} {a : Wd} {r : List Wd} (h : memB a.t (wordsP g) = true) (h2 : memB a.t seen = true) : pairR g seen x (a :: r) = .inl ⟨7, a.p⟩ := by
  cases r <;> simp [pairR, h, h2]
theorem pairR_form {g : Bool} {seen : List ByteArray} {x : LnP} {a : Wd} (h : memB a.t (wordsP g) = true) (h2 : memB a.t seen = false) : pairR g seen x [a] = .inl ⟨3, a.p⟩ := by
  simp [pairR, h, h2]
theorem pairR_go {g : Bool} {seen : List ByteArray} {x : LnP} {a b : Wd} {r : List Wd} (h : memB a.t (wordsP g) = true) (h2 : memB a.t seen = false) : pairR g seen x (a :: b :: r) = goR (seen ++ [a.t]) (valueP x a.t b) := by
  rw [pairR, if_neg (by rw [h]; decide), if_neg (by rw [h2]; decide)]
/-- What pair answers. -/
def PrOut (w : World) (X M q : Nat) (g : Bool) (r : FaP ⊕ (LnP × List ByteArray)) (e : Ending) (w' : World) : Prop := Apart (fun i => i = X ∨ i = M) w w' ∧ match r with
  | .inl f => ∃ F, e = .returned (fltV F) ∧ FaultAt w' F f.p f.e
  | .inr y => e = .returned .nilIface ∧ ∃ av, MLn w' X M q (kindB g) y.2 y.1 av
theorem Only1.apart {R : Nat} {bad : Nat → Prop} {w w' : World} (h : Only1 R w w') (hb : bad R) : Apart bad w w' := ⟨h.os, h.tape, h.output, h.size, fun b hl hn => h.block b hl (fun e => hn (e ▸ hb))⟩
/-- What is held while a pair is taken: the line, the first word's copy, the words. -/
structure PrS (w : World) (X M q C : Nat) (g : Bool) (seen : List ByteArray) (x : LnP) (av : Value) (a : Wd) (A : Option Addr) (ws : List Wd) (W : World) : Prop where
  line : MLn W X M q (kindB g) seen x av
  copy : W.heap[C]? = some (.cells #[.string a.t, .int .i64 a.p] 81 (0, 0))
  wds : WdsAt W A ws
  low : Below w.heap.size w W
theorem PrS.keep {w : World} {X M q C : Nat} {g : Bool} {seen : List ByteArray} {x : LnP} {av : Value} {a : Wd} {A : Option Addr} {ws : List Wd} : ∀ v v', PrS w X M q C g seen x av a A ws v → Below v.heap.size v v' → PrS w X M q C g seen x av a A ws v' :=
  fun _ _ h hb => ⟨h.line.later hb, later_at hb h.copy, h.wds.later hb, below_step h.low hb⟩
/-- Words stay over what is done to a set. -/
theorem wds_other {w w' : World} {A : Option Addr} {l : List Wd} {b q : Nat} {s : List ByteArray} (hs : SetIs w b q s) (h : WdsAt w A l) (ha : Apart (fun i => i = b) w w') : WdsAt w' A l := fun hn => by
  obtain ⟨ad, e, hc⟩ := h hn
  have go : ∀ (p : Addr) (v : Value), w.cell? p = some v → w'.cell? p = some v := fun p v hp => by
    have hl := World.block_lt_of_cell? w _ hp
    rw [World.cell?_of_block (w := w) (ha.block p.block hl (fun e => ?_))]
    · exact hp
    · obtain ⟨es, clock, h1⟩ := hs.isMap
      rw [← e] at h1
      simp [World.cell?, h1] at hp
  exact ⟨ad, e, fun i x hi => ⟨go _ _ (hc i x hi).1, go _ _ (hc i x hi).2⟩⟩
section
variable {w : World} {X M q : Nat} {g : Bool} {seen : List ByteArray} {x : LnP} {av : Value} {A : Option Addr} {c : Nat}
set_option maxHeartbeats 4000000 in
set_option maxRecDepth 100000 in
theorem pair_is (hV : ∀ W : World, Apart (fun i => i = X ∨ i = M) w W → VarL W) (h : MLn w X M q (kindB g) seen x av) (hq : q < 1000000) {a : Wd} {ws : List Wd} (hA : WdsAt w A (a :: ws)) (hs : ∀ y ∈ a :: ws, y.p + y.t.size ≤ 900000) (r : FaP ⊕ (LnP × List ByteArray)) (hr : r = pairR g seen x (a :: ws)) :
    Calls Tryz.prog 61 #[.pointer (some ⟨X, 0, none⟩), .slice A (a :: ws).length c] w (PrOut w X M (q + 1) g r) := by
  obtain ⟨ad, rfl, a0, a1⟩ := hA.at_ (i := 0) (x := a) rfl
  have b1 := (Below.refl w.heap.size w).alloc (Nat.le_refl _) (.cells #[.string a.t, .int .i64 a.p] 81)
  have HS1 := Lib.hid (show PrS w X M q w.heap.size g seen x av a (some ad) (a :: ws) (w.alloc (.cells #[.string a.t, .int .i64 a.p] 81)) from ⟨h.later b1, made_at w _, hA.later b1, b1⟩)
  have hadb : (ad.add (0 * 2)).block < w.heap.size := World.block_lt_of_cell? w _ a0
  have HV := Lib.hid hV
  have HSZ := Lib.hid hs
  have HR := Lib.hid hr
  have hlen : ((a :: ws).length : Int) = (ws.length : Int) + 1 := by simp
  have HLEN := Lib.hid hlen
  obtain ⟨n, hn⟩ : ∃ n, n = (a :: ws).length := ⟨_, rfl⟩
  rw [← hn] at HLEN ⊢
  have hpos : (0 : Int) < (n : Int) := by rw [hn]; simp
  have hz : ad.add (0 * 2) = ad := by simp [Addr.add]
  rw [hz] at a0 a1 hadb
  clear h hA hV hs hr b1 hlen hn hz
  go_enter Tryz.func61, Tryz.ntmps61
  go_upto_region 2 with fail
  generalize hW1 : (w.alloc (.cells #[.string a.t, .int .i64 a.p] 81)) = W1 at HS1 ⊢
  clear hW1 a0 a1 hadb
  obtain ⟨m1, hm1⟩ : ∃ m, m = memB a.t (wordsP g) := ⟨_, rfl⟩
  have HMS := Lib.hid (fun W : World => maystand_is a.t g m1 hm1 W)
  have HM1 := Lib.hid hm1
  clear hm1
  refine wp_region_kept (PrS w X M q w.heap.size g seen x av a (some ad) (a :: ws)) (by kernel_rfl) (by kernel_rfl) (PrS.keep _ _ HS1.out (Below.refl _ _).drew) ?_
  intro hne
  have f0 : ∀ x : HeldW (PrS w X M q w.heap.size g seen x av a (some ad) (a :: ws)), x.w.cell? ⟨w.heap.size, 0, none⟩ = some (.string a.t) := fun x => by have := cellH x.ok.copy 0; simpa using this
  have f1 : ∀ x : HeldW (PrS w X M q w.heap.size g seen x av a (some ad) (a :: ws)), x.w.cell? ⟨X, 0, none⟩ = some (.string (kindB g)) := fun x => by have := cellH x.ok.line.row 0; simpa [lmC] using this
  repeat (go_big_quiet_step (first | (go_at_call 80; rename_i xx; exact kept_same (HMS.out xx.w))))
  refine wpQuiet_nil ?_
  rintro W2 ⟨⟨_, hS2⟩, rfl⟩
  have HS2 := Lib.hid hS2
  clear f0 f1 hne hS2 HS1 HMS
  cases m1 with
  | false =>
    have HF := Lib.hid (fun W : World => mfault_is W a.p 17)
    have HV1 := Lib.hid (show r = .inl ⟨17, a.p⟩ by rw [HR.out, pairR_word HM1.out.symm])
    have x1 := cellH HS2.out.copy 1
    simp at x1
    go_wp2_with fail
    refine (HF.out _).mono ?_
    rintro e w3 ⟨F, rfl, hF, _, hb3⟩
    have HB3 := Lib.hid (below_step HS2.out.low hb3)
    have HFA := Lib.hid hF
    clear hF hb3 x1
    unfold fltV
    go_wp2_with fail
    go_ret
    refine ⟨Apart.of_below HB3.out, ?_⟩
    rw [HV1.out]
    exact ⟨F, rfl, HFA.out⟩
  | true =>
    go_upto_region 4 with fail
    refine wp_region_phase3 (PrS w X M q w.heap.size g seen x av a (some ad) (a :: ws)) 6 3 (by kernel_rfl) (by kernel_rfl) rfl (by kernel_rfl) (by kernel_rfl) (by kernel_rfl) (PrS.keep _ _ HS2.out (Below.refl _ _).drew) ?_
    intro hne
    simp only [List.take_succ_cons, List.take_zero]
    have f0 : ∀ x : HeldW (PrS w X M q w.heap.size g seen x av a (some ad) (a :: ws)), x.w.cell? ⟨w.heap.size, 0, none⟩ = some (.string a.t) := fun x => by have := cellH x.ok.copy 0; simpa using this
    have f1 : ∀ x : HeldW (PrS w X M q w.heap.size g seen x av a (some ad) (a :: ws)), x.w.cell? ⟨X, 1, none⟩ = some (.map (some M)) := fun x => by have := cellH x.ok.line.row 1; simpa [lmC] using this
    repeat (go_big_quiet_step (fail))
    refine wpQuiet_nil ?_
    rintro W3 ⟨⟨_, hS3⟩, rfl⟩
    have HS3 := Lib.hid hS3
    clear f0 f1 hne hS3 HS2
    obtain ⟨m2, hm2⟩ : ∃ m, m = memB a.t seen := ⟨_, rfl⟩
    have had := add_is HS3.out.line.set hq a.t (by have := HSZ.out a (List.mem_cons_self ..); omega)
    rw [← hm2] at had
    have HAD := Lib.hid had
    have HM2 := Lib.hid hm2
    clear had hm2
    refine one_ready (i := 6) (by kernel_rfl) (wpOp_step rfl (fun KK hKK => ?_))
    go_simp
    refine HAD.out.mono ?_
    rintro e W4 ⟨rfl, hap, hs4⟩
    refine hKK _ _ ?_
    clear hKK KK
    refine one_ready (i := 7) (by kernel_rfl) (wpOp_step rfl (fun KK hKK => ?_))
    go_simp
    refine hKK _ _ ?_
    clear hKK KK
    refine one_ready (i := 8) (by kernel_rfl) (wpOp_step rfl (fun KK hKK => ?_))
    go_simp
    refine hKK _ _ ?_
    clear hKK KK
    refine ⟨by kernel_rfl, ?_⟩
    have hst := HS3.out.line.set
    have hrow4 := (hst.other hap HS3.out.line.row).trans HS3.out.line.row
    have hcopy4 := (hst.other hap HS3.out.copy).trans HS3.out.copy
    have hwds4 := wds_other hst HS3.out.wds hap
    have haft4 : ∃ A c, av = .slice A x.after.length c ∧ WdsM W4 A x.after := by
      obtain ⟨A', c', e, hA'⟩ := HS3.out.line.aft
      exact ⟨A', c', e, hA'.frame (fun g cur hg => hst.other hap hg)⟩
    have HAP4 := Lib.hid (show Apart (fun i => i = X ∨ i = M) w W4 from (Apart.of_below HS3.out.low).trans (hap.mono (fun b e => .inr e)))
    have HSZ4 := Lib.hid (show w.heap.size + 1 ≤ W4.heap.size from (Array.getElem?_eq_some_iff.1 hcopy4).1)
    have HCP := Lib.hid hcopy4
    have HWD := Lib.hid hwds4
    have HRW := Lib.hid hrow4
    have HAF := Lib.hid haft4
    have HST := Lib.hid hs4
    have HVV := Lib.hid (HV.out W4 HAP4.out)
    clear hst hrow4 hcopy4 hwds4 haft4 hap hs4 HAD
    cases m2 with
    | true =>
      have HF := Lib.hid (fun W : World => mfault_is W a.p 7)
      have HV1 := Lib.hid (show r = .inl ⟨7, a.p⟩ by rw [HR.out, pairR_once HM1.out.symm HM2.out.symm])
      have x1 := cellH HCP.out 1
      simp at x1
      go_wp2_with fail
      refine (HF.out _).mono ?_
      rintro e w3 ⟨F, rfl, hF, _, hb3⟩
      have HB3 := Lib.hid (HAP4.out.trans (Apart.of_below hb3))
      have HFA := Lib.hid hF
      clear hF hb3 x1
      unfold fltV
      go_wp2_with fail
      go_ret
      refine ⟨HB3.out, ?_⟩
      rw [HV1.out]
      exact ⟨F, rfl, HFA.out⟩
    | false =>
      cases ws with
      | nil =>
        have HF := Lib.hid (fun W : World => mfault_is W a.p 3)
        have HV1 := Lib.hid (show r = .inl ⟨3, a.p⟩ by rw [HR.out, pairR_form HM1.out.symm HM2.out.symm])
        have x1 := cellH HCP.out 1
        simp at x1
        have hlen : (n : Int) = 1 := by rw [HLEN.out]; rfl
        go_wp2_with fail
        refine (HF.out _).mono ?_
        rintro e w3 ⟨F, rfl, hF, _, hb3⟩
        have HB3 := Lib.hid (HAP4.out.trans (Apart.of_below hb3))
        have HFA := Lib.hid hF
        clear hF hb3 x1
        unfold fltV
        go_wp2_with fail
        go_ret
        refine ⟨HB3.out, ?_⟩
        rw [HV1.out]
        exact ⟨F, rfl, HFA.out⟩
      | cons b rest =>
        have hlen : (2 : Int) ≤ (n : Int) := by rw [HLEN.out]; simp; omega
        have hl2 : ¬ (n : Int) < 2 := by omega
        have hl3 : (1 : Int) < (n : Int) := by omega
        go_upto_region 8 with fail
        have HS4 := Lib.hid (show PrS W4 X M (q + 1) w.heap.size g (seen ++ [a.t]) x av a (some ad) (a :: b :: rest) W4 from ⟨⟨HRW.out, HST.out, HAF.out⟩, HCP.out, HWD.out, Below.refl _ _⟩)
        clear HRW HST HAF HCP HWD
        refine wp_region_phase3 (PrS W4 X M (q + 1) w.heap.size g (seen ++ [a.t]) x av a (some ad) (a :: b :: rest)) 6 2 (by kernel_rfl) (by kernel_rfl) rfl (by kernel_rfl) (by kernel_rfl) (by kernel_rfl) (PrS.keep _ _ HS4.out (Below.refl _ _).drew) ?_
        intro hne
        simp only [List.take_succ_cons, List.take_zero]
        have f0 : ∀ x' : HeldW (PrS W4 X M (q + 1) w.heap.size g (seen ++ [a.t]) x av a (some ad) (a :: b :: rest)), x'.w.cell? ⟨w.heap.size, 0, none⟩ = some (.string a.t) := fun x => by have := cellH x.ok.copy 0; simpa using this
        have f1 : ∀ x' : HeldW (PrS W4 X M (q + 1) w.heap.size g (seen ++ [a.t]) x av a (some ad) (a :: b :: rest)), x'.w.cell? ⟨ad.block, ad.off + 2, none⟩ = some (.string b.t) := fun x => by
          obtain ⟨ad', e, h1, _⟩ := x.ok.wds.at_ (i := 1) (x := b) rfl
          obtain rfl : ad = ad' := by injection e
          simpa [Addr.add] using h1
        have f2 : ∀ x' : HeldW (PrS W4 X M (q + 1) w.heap.size g (seen ++ [a.t]) x av a (some ad) (a :: b :: rest)), x'.w.cell? ⟨ad.block, ad.off + 2 + 1, none⟩ = some (.int .i64 b.p) := fun x => by
          obtain ⟨ad', e, _, h1⟩ := x.ok.wds.at_ (i := 1) (x := b) rfl
          obtain rfl : ad = ad' := by injection e
          simpa [Addr.add] using h1
        have f3 := f2
        simp only [Nat.add_assoc, Nat.reduceAdd] at f3
        repeat (go_big_quiet_step (fail))
        refine wpQuiet_nil ?_
        rintro W5 ⟨⟨_, hS5⟩, rfl⟩
        have HS5 := Lib.hid hS5
        clear f0 f1 f2 f3 hne hS5 HS4
        have HVL := Lib.hid (mvalue_is (HVV.out.later HS5.out.low) HS5.out.line HM1.out.symm b.t b.p (HSZ.out b (by simp)))
        obtain ⟨rv, hrv⟩ : ∃ rv, rv = valueP x a.t b := ⟨_, rfl⟩
        rw [← hrv] at HVL
        have HV1 := Lib.hid (show r = goR (seen ++ [a.t]) rv by rw [HR.out, pairR_go HM1.out.symm HM2.out.symm, hrv])
        clear hrv
        refine one_ready (i := 6) (by kernel_rfl) (wpOp_step rfl (fun KK hKK => ?_))
        go_simp
        refine HVL.out.mono ?_
        cases rv with
        | inl f =>
          rintro e W6 ⟨ho6, F, rfl, hF⟩
          refine hKK _ _ ?_
          clear hKK KK
          have HAP6 := Lib.hid ((HAP4.out.trans (Apart.of_below HS5.out.low)).trans (ho6.apart (bad := fun i => i = X ∨ i = M) (.inl rfl)))
          have HFA := Lib.hid hF
          clear ho6 hF
          unfold fltV
          refine one_ready (i := 7) (by kernel_rfl) (wpOp_step rfl (fun KK hKK => ?_))
          go_simp
          refine hKK _ _ ?_
          clear hKK KK
          refine ⟨by kernel_rfl, ?_⟩
          go_wp2_with fail
          go_ret
          refine ⟨HAP6.out, ?_⟩
          rw [HV1.out]
          exact ⟨F, rfl, HFA.out⟩
        | inr y =>
          rintro e W6 ⟨ho6, rfl, av', hM6⟩
          refine hKK _ _ ?_
          clear hKK KK
          have HAP6 := Lib.hid ((HAP4.out.trans (Apart.of_below HS5.out.low)).trans (ho6.apart (bad := fun i => i = X ∨ i = M) (.inl rfl)))
          have HM6 := Lib.hid hM6
          clear ho6 hM6
          refine one_ready (i := 7) (by kernel_rfl) (wpOp_step rfl (fun KK hKK => ?_))
          go_simp
          refine hKK _ _ ?_
          clear hKK KK
          refine ⟨by kernel_rfl, ?_⟩
          go_wp2_with fail
          go_ret
          refine ⟨HAP6.out, ?_⟩
          rw [HV1.out]
          exact ⟨rfl, av', HM6.out⟩
end
end Go.Proofs.YtcfnmjhelhdobaaGreatDoor
