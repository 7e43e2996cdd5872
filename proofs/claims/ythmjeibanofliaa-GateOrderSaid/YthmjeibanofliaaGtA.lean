/-
  Lists of numbers that may be nil, in memory; the document's In, Same and Vote. No conditions but how the lists lie.
-/
import Derived.Test.YthmjeibanofliaaGtP
import Derived.Lib.AppendIntMem
import Derived.Deep.RegionLaw
import Derived.OwnWalk
import Derived.Laws.OwnMore
import Derived.Laws.AppendOwnNone
import Derived.Deep.QuietTactic
import Derived.BigQuiet
namespace Go.Proofs.Ythmjeibanofliaa
open Go.RowKit

section
variable {P : Program} (w : World)
/-- append of a list that may be nil onto a row of the call's own. -/
theorem wpList_append_opt {ops : Array Oper} {rest : List Oper} {o : Oper} {a : Act} {Q : Exit → Act → World → Prop} (hgd : o.guard = none) (s x : Operand) (t : TypeId)
    (ho : o.op = .call { callee := .builtin .append, args := #[s, x], argTypes := #[t, t] })
    (base : Nat) (e : TypeId) (i : TypeInfo) (z : Value) (size bytes : Nat) (ht : P.underlying t = some (.slice e)) (hi : P.info? e = some i) (hz : i.zero = some z)
    (hsize : i.size = size) (hby : i.bytes = bytes) (hzs : z.cells.size = size) (hsz : 0 < size)
    (v : Value) (n : Nat) (xs : List Value) (hs : a.eval s = v) (hown : w.ownsRow base e size v n xs)
    (A : Option Addr) (m c : Nat) (news : List Value) (hx : a.eval x = .slice A m c) (hA : A = none → m = 0 ∧ c = 0) (hl : news.length = m * size) (hnews : ∀ ad, A = some ad → ∀ j u, news[j]? = some u → w.cell? (ad.add j) = some u)
    (h1 : ∀ u ∈ news, u.oneCell' = true) (h63 : n + m ≤ maxLen) (hbytes : (n + m) * bytes ≤ 140737488355328) (hbase : base ≤ w.heap.size)
    (h : ∀ v' w', w'.ownsRow base e size v' (n + m) (xs ++ news) → w.grownBy w' v.ownBlock → wpList P ops Q rest (a.put o.dst v') w') : wpList P ops Q (o :: rest) a w := by
  rcases A with _ | ad
  · obtain ⟨rfl, rfl⟩ := hA rfl
    obtain rfl : news = [] := List.eq_nil_of_length_eq_zero (by simpa using hl)
    exact wpList_append_own_none hgd s x t ho base e i size ht hi v n xs hs hown hx (h v w (by simpa using hown) (World.grownBy.refl w _))
  · exact wpList_append_own w hgd s x t ho base e i z size bytes ht hi hz hsize hby hzs hsz v n xs hs hown ad m c news hx hl (hnews ad rfl) h1 h63 hbytes hbase (fun v' w' h2 h3 _ => h v' w' h2 h3)
end

/-- A list of numbers stands at A; nil: it is empty. -/
structure IntsC (w : World) (A : Option Addr) (c : Nat) (l : List Int) : Prop where
  at_ : IntsL w A l
  cap : l.length ≤ c
  nil : A = none → l = [] ∧ c = 0
section
variable {w w' : World} {A : Option Addr} {c : Nat} {l : List Int}
theorem IntsC.later (h : IntsC w A c l) (hb : Below w.heap.size w w') : IntsC w' A c l := ⟨h.at_.later hb, h.cap, h.nil⟩
theorem IntsC.keep (h : IntsC w A c l) (hk : ∀ a v, w.cell? a = some v → w'.cell? a = some v) : IntsC w' A c l := ⟨fun hn => by
  obtain ⟨ad, e, hc⟩ := h.at_ hn
  exact ⟨ad, e, fun i hi => hk _ _ (hc i hi)⟩, h.cap, h.nil⟩
theorem IntsC.none_ (w : World) : IntsC w none 0 [] := ⟨fun h => absurd h (Nat.lt_irrefl _), Nat.le_refl _, fun _ => ⟨rfl, rfl⟩⟩
theorem IntsC.opt (h : IntsC w A c l) : ∀ ad, A = some ad → ∀ j u, (l.map (Value.int .i64))[j]? = some u → w.cell? (ad.add j) = some u := by
  intro ad e j u hu
  rw [List.getElem?_map, Option.map_eq_some_iff] at hu
  obtain ⟨z, hz, rfl⟩ := hu
  have hj := (List.getElem?_eq_some_iff.1 hz).1
  obtain ⟨bd, e2, hc⟩ := h.at_ (by omega)
  rw [e] at e2
  obtain rfl := Option.some.inj e2
  rw [hc j hj, List.getD_eq_getElem?_getD, hz]
  rfl
theorem IntsC.zero (h : IntsC w A c l) : A = none → l.length = 0 ∧ c = 0 := fun e => by
  obtain ⟨h1, h2⟩ := h.nil e
  exact ⟨by rw [h1]; rfl, h2⟩
theorem IntsC.get (h : IntsC w A c l) {i : Nat} (hi : i < l.length) : ∃ ad x, A = some ad ∧ l[i]? = some x ∧ w.cell? (ad.add i) = some (.int .i64 x) := by
  obtain ⟨ad, e, hc⟩ := h.at_.at_ hi
  refine ⟨ad, l[i], e, List.getElem?_eq_getElem hi, ?_⟩
  rw [hc, List.getD_eq_getElem?_getD, List.getElem?_eq_getElem hi]
  rfl
end
theorem intsC_of_own {w : World} {base : Nat} {v : Value} {n : Nat} {zs : List Int} (h : w.ownsRow base 3 1 v n (zs.map (Value.int .i64))) : ∃ A c, v = .slice A zs.length c ∧ IntsC w A c zs ∧ ∀ ad, A = some ad → base ≤ ad.block := by
  have hl : zs.length = n := by simpa using h.1
  subst hl
  rcases h.2 with ⟨rfl, h0⟩ | ⟨g, cap, cur, rfl, hb, _, hc, _⟩
  · have e : zs = [] := List.eq_nil_of_length_eq_zero h0
    subst e
    exact ⟨none, 0, rfl, IntsC.none_ w, fun _ h => by cases h⟩
  · refine ⟨_, cap, rfl, ⟨fun _ => ⟨_, rfl, fun i hi => h.cells (g := g) rfl i _ ?_⟩, hc, fun h => by cases h⟩, fun ad e => by obtain rfl := Option.some.inj e; exact hb⟩
    simp [List.getElem?_map, List.getElem?_eq_getElem hi]
section
variable {w : World} {A B : Option Addr} {c d : Nat}
set_option maxHeartbeats 1000000 in
set_option maxRecDepth 100000 in
theorem gsame_is {l : List Int} (ha : IntsC w A c l) (hb : IntsC w B d l) (hn : l.length ≤ 64) :
    Calls Try.prog 8 #[.slice A l.length c, .slice B l.length d] w fun e w' => e = .returned (.bool true) ∧ Below w.heap.size w w' := by
  have HA := Lib.hid ha
  have HB := Lib.hid hb
  clear ha hb
  go_enter Try.func8, Try.ntmps8
  go_wp2
  go_loopw [5] (fun i wr => ∃ k q : Nat, k ≤ l.length ∧ i = .int .i64 k ∧ wr = w.drewN q) (fun i _ => l.length - (intOf i).toNat)
  case atStart => exact ⟨0, 0, Nat.zero_le _, rfl, rfl⟩
  case round =>
    obtain ⟨k, q, hk, rfl, rfl⟩ := hrel
    by_cases hlt : k < l.length
    · obtain ⟨ad, x, rfl, hx, h0⟩ := HA.out.get hlt
      obtain ⟨bd, y, rfl, hy, h1⟩ := HB.out.get hlt
      obtain rfl := Option.some.inj (hx.symm.trans hy)
      have hc1 := HA.out.cap
      have hc2 := HB.out.cap
      clear hx hy
      go_wp2
      go_quiet (fail)
      go_wp2
      go_roundw
      case rel => exact ⟨k + 1, _, by omega, by go_num, rfl⟩
      case measure => simp [intOf]; omega
    · go_wp2
      go_ret
      exact ⟨rfl, Below.drewN_ (Below.refl _ _) _⟩
set_option maxHeartbeats 1000000 in
set_option maxRecDepth 100000 in
theorem refin_is {l : List Int} (ha : IntsC w A c l) (hn : l.length ≤ 64) (x : Int) :
    Calls Try.prog 13 #[.slice A l.length c, .int .i64 x] w fun e w' => e = .returned (.bool (l.contains x)) ∧ Below w.heap.size w w' := by
  have HA := Lib.hid ha
  clear ha
  obtain ⟨r, hr⟩ : ∃ r, r = l.contains x := ⟨_, rfl⟩
  rw [← hr]
  have HR := Lib.hid hr
  clear hr
  go_enter Try.func13, Try.ntmps13
  go_wp2_with fail
  go_loopw [5] (fun i wr => ∃ k : Nat, i = .int .i64 k ∧ k ≤ l.length ∧ Hid (∀ y ∈ l.take k, y ≠ x) ∧ w = wr) (fun i _ => l.length - (intOf i).toNat)
  case atStart => exact ⟨0, rfl, Nat.zero_le _, Lib.hid (fun y h => by simp at h), rfl⟩
  case round =>
    obtain ⟨k, rfl, hk, HF, rfl⟩ := hrel
    by_cases hlt : k < l.length
    · obtain ⟨ad, y, rfl, hy, h0⟩ := HA.out.get hlt
      have hc1 := HA.out.cap
      have hkl : (k : Int) < (l.length : Int) := by omega
      have HY := Lib.hid hy
      clear hy
      by_cases hxy : y = x
      · have n1 : (y == x) = true := beq_iff_eq.2 hxy
        have HE := Lib.hid (show r = true by rw [HR.out, List.contains_iff_mem, ← hxy]; exact List.mem_of_getElem? HY.out)
        clear hxy
        go_wp2_with fail
        go_ret
        exact ⟨by rw [HE.out]; rfl, Below.refl _ _⟩
      · have n1 : (y == x) = false := beq_eq_false_iff_ne.2 hxy
        have HN := Lib.hid (show ∀ z ∈ l.take (k + 1), z ≠ x from fun z hz => by
          rw [List.take_add_one, HY.out] at hz
          rcases List.mem_append.1 hz with h | h
          · exact HF.out z h
          · obtain rfl : z = y := by simpa using h
            exact hxy)
        clear hxy
        go_wp2_with fail
        go_roundw
        case rel => exact ⟨k + 1, by go_num, by omega, HN, by trivial⟩
        case measure => simp [intOf]; omega
    · obtain rfl : k = l.length := by omega
      have hlk : ¬ (l.length : Int) < (l.length : Int) := by omega
      have HE := Lib.hid (show r = false by
        rw [HR.out]
        cases hc : l.contains x with
        | false => rfl
        | true =>
          rw [List.contains_iff_mem] at hc
          exact absurd rfl (HF.out x (by rw [List.take_length]; exact hc)))
      go_wp2_with fail
      go_ret
      exact ⟨by rw [HE.out]; rfl, Below.refl _ _⟩
theorem insL_cons (y : Int) (l : List Int) (x : Int) : insL (y :: l) x = if x < y then x :: y :: l else y :: insL l x := rfl
theorem insL_on {x : Int} : ∀ {l m : List Int}, (∀ y ∈ l, ¬ x < y) → insL (l ++ m) x = l ++ insL m x
  | [], _, _ => rfl
  | y :: l, m, h => by
    rw [List.cons_append, insL_cons, if_neg (h y (List.mem_cons_self ..)), insL_on (fun z hz => h z (List.mem_cons_of_mem _ hz)), List.cons_append]
theorem insL_off {x : Int} : ∀ {l m : List Int}, (∃ y ∈ l, x < y) → insL (l ++ m) x = insL l x ++ m
  | [], _, h => by obtain ⟨y, hy, _⟩ := h; cases hy
  | y :: l, m, h => by
    rw [List.cons_append, insL_cons, insL_cons]
    by_cases hy : x < y
    · rw [if_pos hy, if_pos hy]
      rfl
    · rw [if_neg hy, if_neg hy, insL_off (l := l) (m := m) (by
        obtain ⟨z, hz, h2⟩ := h
        rcases List.mem_cons.1 hz with rfl | h3
        · exact absurd h2 hy
        · exact ⟨z, h3, h2⟩)]
      rfl
/-- Where the document's loop is: what is put down of the first k, and whether x is there already. -/
def InsK (yes : List Int) (x : Int) (k : Nat) (b : Bool) (out : List Int) : Prop := (b = true ∧ out = insL (yes.take k) x ∧ ∃ y ∈ yes.take k, x < y) ∨ (b = false ∧ out = yes.take k ∧ ∀ y ∈ yes.take k, ¬ x < y)
theorem InsK.len {yes out : List Int} {x : Int} {k : Nat} {b : Bool} (h : InsK yes x k b out) : out.length ≤ yes.length + 1 := by
  rcases h with ⟨_, rfl, _⟩ | ⟨_, rfl, _⟩
  · rw [insL_len, List.length_take]; omega
  · rw [List.length_take]; omega
theorem insK_done {yes out : List Int} {x y : Int} {k : Nat} (h : InsK yes x k true out) (hy : yes[k]? = some y) : InsK yes x (k + 1) true (out ++ [y]) := by
  rcases h with ⟨_, rfl, z, hz, hlt⟩ | ⟨h, _⟩
  · refine .inl ⟨rfl, ?_, z, ?_, hlt⟩
    · rw [List.take_add_one, hy]
      exact (insL_off ⟨z, hz, hlt⟩).symm
    · rw [List.take_add_one]
      exact List.mem_append_left _ hz
  · cases h
theorem insK_here {yes out : List Int} {x y : Int} {k : Nat} (h : InsK yes x k false out) (hy : yes[k]? = some y) (hlt : x < y) : InsK yes x (k + 1) true (out ++ [x] ++ [y]) := by
  rcases h with ⟨h, _⟩ | ⟨_, rfl, hn⟩
  · cases h
  · refine .inl ⟨rfl, ?_, y, ?_, hlt⟩
    · rw [List.take_add_one, hy, List.append_assoc]
      show _ = insL (yes.take k ++ [y]) x
      rw [insL_on hn, insL_cons, if_pos hlt]
      rfl
    · rw [List.take_add_one, hy]
      exact List.mem_append_right _ (List.mem_singleton.2 rfl)
theorem insK_not {yes out : List Int} {x y : Int} {k : Nat} (h : InsK yes x k false out) (hy : yes[k]? = some y) (hlt : ¬ x < y) : InsK yes x (k + 1) false (out ++ [y]) := by
  rcases h with ⟨h, _⟩ | ⟨_, rfl, hn⟩
  · cases h
  · refine .inr ⟨rfl, by rw [List.take_add_one, hy]; rfl, fun z hz => ?_⟩
    rw [List.take_add_one, hy] at hz
    rcases List.mem_append.1 hz with h | h
    · exact hn z h
    · obtain rfl : z = y := by simpa using h
      exact hlt
theorem insK_end {yes out : List Int} {x : Int} {b : Bool} (h : InsK yes x yes.length b out) : (if b then out else out ++ [x]) = insL yes x := by
  rcases h with ⟨rfl, rfl, _⟩ | ⟨rfl, rfl, hn⟩
  · simp
  · rw [List.take_length] at hn ⊢
    have := insL_on (m := []) hn
    rw [List.append_nil] at this
    rw [this]
    rfl
/-- What a vote answers. -/
def VtOut (w : World) (yes : List Int) (no may : Bool) (e : Ending) (w' : World) : Prop := ∃ B b, e = .returned (.tuple #[.slice B yes.length b, .bool no, .bool may]) ∧ IntsC w' B b yes ∧ Below w.heap.size w w'
set_option maxHeartbeats 4000000 in
set_option maxRecDepth 100000 in
theorem refvote12_is {yes : List Int} (ha : IntsC w A c yes) (hn : yes.length ≤ 64) (no is : Bool) (who need : Int) :
    Calls Try.prog 7 #[.slice A yes.length c, .bool no, .int .i64 who, .bool is, .int .i64 need] w (VtOut w (yesV yes who is) (noV no is) (mayV (yesV yes who is) (noV no is) need)) := by
  have HA := Lib.hid ha
  obtain ⟨i0, hi, hz0, hz1, hz2⟩ := info_all info_int
  obtain ⟨ys, hys⟩ : ∃ ys, ys = yesV yes who is := ⟨_, rfl⟩
  obtain ⟨n2, hn2⟩ : ∃ n2, n2 = noV no is := ⟨_, rfl⟩
  obtain ⟨my, hmy⟩ : ∃ my, my = mayV ys n2 need := ⟨_, rfl⟩
  rw [← hys, ← hn2, ← hmy]
  have HYS := Lib.hid hys
  have HN2 := Lib.hid hn2
  have HMY := Lib.hid hmy
  clear ha hys hn2 hmy
  cases is with
  | false =>
    have E1 := Lib.hid (show ys = yes by rw [HYS.out]; rfl)
    have E2 := Lib.hid (show n2 = true by rw [HN2.out]; simp [noV])
    have E3 := Lib.hid (show my = false by rw [HMY.out, E2.out]; rfl)
    go_enter Try.func7, Try.ntmps7
    go_wp2_with (at_builtin; refine wpList_append_opt _ rfl (.tmp 18) (.tmp 19) 24 rfl w.heap.size 3 i0 _ 1 8 Try.underlying24 hi hz0 hz1 hz2 rfl (by omega) (.slice none 0 0) 0 [] rfl (World.ownsRow_nil _ _ _ _) A yes.length c (yes.map (Value.int .i64)) rfl HA.out.zero (by simp) HA.out.opt (by simp [Value.oneCell']) (by unfold maxLen; omega) (by omega) (by omega) ?_; intro v2 w2 hown2 hg2; obtain ⟨B, b, rfl, hB, hbk⟩ := intsC_of_own (zs := yes) (by simpa using hown2); have HB := Lib.hid hB; have HL := Lib.hid ((Below.refl w.heap.size w).grown hg2 (Nat.le_refl _) (fun q hq => by simp [Value.ownBlock] at hq)); clear hB hown2 hg2 hbk)
    exact bodyPost_ret (results_tmp3 rfl _ _ _) rfl ⟨B, b, by rw [E1.out, E2.out, E3.out]; rfl, by rw [E1.out]; exact HB.out, HL.out⟩
  | true =>
    obtain ⟨ib, hib⟩ : ∃ ib, ib = yes.contains who := ⟨_, rfl⟩
    have hin := refin_is HA.out hn who
    rw [← hib] at hin
    have HIN := Lib.hid hin
    have E2 := Lib.hid (show n2 = no by rw [HN2.out]; simp [noV])
    by_cases hskip : who < 0 ∨ 11 < who ∨ ib = true
    · have E1 := Lib.hid (show ys = yes by
        rw [HYS.out]
        unfold yesV okWho
        rw [if_neg]
        rintro h
        simp only [Bool.true_and, Bool.and_eq_true, decide_eq_true_eq, Bool.not_eq_true'] at h
        rcases hskip with h1 | h1 | h1
        · omega
        · omega
        · rw [← hib, h1] at h
          cases h.2)
      obtain ⟨nb, hnb⟩ : ∃ nb, nb = decide (need ≤ (yes.length : Int)) := ⟨_, rfl⟩
      have E3 := Lib.hid (show my = (!no && nb) by rw [HMY.out, E1.out, E2.out, hnb]; rfl)
      have hge : ∀ (h : nb = true), need ≤ (yes.length : Int) := fun h => of_decide_eq_true (hnb.symm.trans h)
      have hlt2 : ∀ (h : nb = false), ¬ need ≤ (yes.length : Int) := fun h => of_decide_eq_false (hnb.symm.trans h)
      have HNB := Lib.hid (And.intro hge hlt2)
      have HSK := Lib.hid hskip
      clear hge hlt2 hnb hib hskip hin
      go_enter Try.func7, Try.ntmps7
      go_upto_region 4 with fail
      go_cut [31] (fun v wr => v = .bool true ∧ Hid (Below w.heap.size w wr))
      case first =>
        by_cases h1 : who < 0
        · go_wp2_with fail
          go_meet
          exact ⟨rfl, Lib.hid (Below.refl _ _)⟩
        · by_cases h2 : 11 < who
          · go_wp2_with fail
            go_meet
            exact ⟨rfl, Lib.hid (Below.refl _ _)⟩
          · obtain rfl : ib = true := (HSK.out.resolve_left h1).resolve_left h2
            go_wp2_with fail
            refine HIN.out.mono ?_
            rintro e wx ⟨rfl, hbx⟩
            have HBX := Lib.hid hbx
            clear hbx
            go_wp2_with fail
            go_meet
            exact ⟨rfl, HBX⟩
      case rest =>
        obtain ⟨rfl, HBC⟩ := hcut
        have HA1 := Lib.hid (HA.out.later HBC.out)
        have hsz := HBC.out.size
        cases no with
        | true =>
          go_wp2_with (at_builtin; refine wpList_append_opt _ rfl (.tmp 32) (.tmp 33) 24 rfl w.heap.size 3 i0 _ 1 8 Try.underlying24 hi hz0 hz1 hz2 rfl (by omega) (.slice none 0 0) 0 [] rfl (World.ownsRow_nil _ _ _ _) A yes.length c (yes.map (Value.int .i64)) rfl HA1.out.zero (by simp) HA1.out.opt (by simp [Value.oneCell']) (by unfold maxLen; omega) (by omega) hsz ?_; intro v2 w2 hown2 hg2; obtain ⟨B, b, rfl, hB, hbk⟩ := intsC_of_own (zs := yes) (by simpa using hown2); have HB := Lib.hid hB; have HL := Lib.hid (HBC.out.grown hg2 hsz (fun q hq => by simp [Value.ownBlock] at hq)); clear hB hown2 hg2 hbk)
          exact bodyPost_ret (results_tmp3 rfl _ _ _) rfl ⟨B, b, by rw [E1.out, E2.out, E3.out]; rfl, by rw [E1.out]; exact HB.out, HL.out⟩
        | false =>
          cases nb with
          | true =>
            have hge := HNB.out.1 (by first | rfl | trivial)
            go_wp2_with (at_builtin; refine wpList_append_opt _ rfl (.tmp 32) (.tmp 33) 24 rfl w.heap.size 3 i0 _ 1 8 Try.underlying24 hi hz0 hz1 hz2 rfl (by omega) (.slice none 0 0) 0 [] rfl (World.ownsRow_nil _ _ _ _) A yes.length c (yes.map (Value.int .i64)) rfl HA1.out.zero (by simp) HA1.out.opt (by simp [Value.oneCell']) (by unfold maxLen; omega) (by omega) hsz ?_; intro v2 w2 hown2 hg2; obtain ⟨B, b, rfl, hB, hbk⟩ := intsC_of_own (zs := yes) (by simpa using hown2); have HB := Lib.hid hB; have HL := Lib.hid (HBC.out.grown hg2 hsz (fun q hq => by simp [Value.ownBlock] at hq)); clear hB hown2 hg2 hbk)
            exact bodyPost_ret (results_tmp3 rfl _ _ _) rfl ⟨B, b, by rw [E1.out, E2.out, E3.out]; rfl, by rw [E1.out]; exact HB.out, HL.out⟩
          | false =>
            have hge := HNB.out.2 (by first | rfl | trivial)
            go_wp2_with (at_builtin; refine wpList_append_opt _ rfl (.tmp 32) (.tmp 33) 24 rfl w.heap.size 3 i0 _ 1 8 Try.underlying24 hi hz0 hz1 hz2 rfl (by omega) (.slice none 0 0) 0 [] rfl (World.ownsRow_nil _ _ _ _) A yes.length c (yes.map (Value.int .i64)) rfl HA1.out.zero (by simp) HA1.out.opt (by simp [Value.oneCell']) (by unfold maxLen; omega) (by omega) hsz ?_; intro v2 w2 hown2 hg2; obtain ⟨B, b, rfl, hB, hbk⟩ := intsC_of_own (zs := yes) (by simpa using hown2); have HB := Lib.hid hB; have HL := Lib.hid (HBC.out.grown hg2 hsz (fun q hq => by simp [Value.ownBlock] at hq)); clear hB hown2 hg2 hbk)
            exact bodyPost_ret (results_tmp3 rfl _ _ _) rfl ⟨B, b, by rw [E1.out, E2.out, E3.out]; rfl, by rw [E1.out]; exact HB.out, HL.out⟩
    · have h1 : ¬ who < 0 := fun h => hskip (.inl h)
      have h2 : ¬ 11 < who := fun h => hskip (.inr (.inl h))
      obtain rfl : ib = false := by
        cases ib with
        | false => rfl
        | true => exact absurd (.inr (.inr rfl)) hskip
      have E1 := Lib.hid (show ys = insL yes who by
        rw [HYS.out]
        unfold yesV okWho
        rw [if_pos]
        rw [← hib]
        simp
        omega)
      have HYL := Lib.hid (show ys.length = yes.length + 1 by rw [E1.out, insL_len])
      obtain ⟨nb, hnb⟩ : ∃ nb, nb = decide (need ≤ (ys.length : Int)) := ⟨_, rfl⟩
      have E3 := Lib.hid (show my = (!no && nb) by rw [HMY.out, E2.out, hnb]; rfl)
      have HND := Lib.hid hnb
      clear hnb hib hskip hin
      go_enter Try.func7, Try.ntmps7
      go_wp2_with fail
      refine HIN.out.mono ?_
      rintro e w1 ⟨rfl, hb1⟩
      have HB1 := Lib.hid hb1
      clear hb1 HIN
      go_wp2_with fail
      clear h1 h2
      go_loopw [13, 14, 15] (fun v b i wr => ∃ (k : Nat) (bb : Bool) (out : List Int), b = .bool bb ∧ i = .int .i64 k ∧ k ≤ yes.length ∧ Hid (InsK yes who k bb out) ∧ Hid (wr.ownsRow w.heap.size 3 1 v out.length (out.map (Value.int .i64))) ∧ Hid (Below w.heap.size w wr)) (fun _ _ i _ => yes.length - (intOf i).toNat)
      case atStart => exact ⟨0, false, [], rfl, rfl, Nat.zero_le _, Lib.hid (.inr ⟨rfl, rfl, fun y h => by simp at h⟩), Lib.hid (World.ownsRow_nil _ _ _ _), HB1⟩
      case round =>
        obtain ⟨k, bb, out, rfl, rfl, hk, HI, HO, HB⟩ := hrel
        have hol := HI.out.len
        by_cases hlt : k < yes.length
        · obtain ⟨ad, y, rfl, hy, h0⟩ := (HA.out.later HB.out).get hlt
          have hc1 := HA.out.cap
          have hkl : (k : Int) < (yes.length : Int) := by omega
          have HY := Lib.hid hy
          have hsz := HB.out.size
          clear hy
          cases bb with
          | true =>
            go_wp2_with (at_builtin; refine wpList_append_own _ rfl (.tmp 64) (.tmp 69) 24 rfl w.heap.size 3 i0 _ 1 8 Try.underlying24 hi hz0 hz1 hz2 rfl (by omega) _ (out).length ((out).map (Value.int .i64)) rfl (HO.out.alloc _) ⟨wr.heap.size, 0, none⟩ 1 1 [.int .i64 y] rfl rfl (one_cell_new wr _ _) (by simp [Value.oneCell']) (by unfold maxLen; omega) (by omega) (by simp; omega) ?_; intro v2 w2 hown2 hg2 _)
            have hB2 := (HB.out.alloc hsz (.cells #[.int .i64 y] 3)).grown hg2 (by simp; omega) (fun q hq => (own_tag HO.out hq).1)
            go_roundw
            case rel => exact ⟨k + 1, true, out ++ [y], rfl, by go_num, by omega, Lib.hid (insK_done HI.out HY.out), Lib.hid (by simpa using hown2), Lib.hid hB2⟩
            case measure => (simp [intOf]; try omega)
          | false =>
            by_cases hxy : who < y
            · have HXY := Lib.hid hxy
              go_upto_region 13 with (at_builtin; refine wpList_append_own _ rfl (.tmp 60) (.tmp 62) 24 rfl w.heap.size 3 i0 _ 1 8 Try.underlying24 hi hz0 hz1 hz2 rfl (by omega) _ (out).length ((out).map (Value.int .i64)) rfl (HO.out.alloc _) ⟨wr.heap.size, 0, none⟩ 1 1 [.int .i64 who] rfl rfl (one_cell_new wr _ _) (by simp [Value.oneCell']) (by unfold maxLen; omega) (by omega) (by simp; omega) ?_; intro v2 w2 hown2 hg2 _)
              have hB2 := (HB.out.alloc hsz (.cells #[.int .i64 who] 3)).grown hg2 (by simp; omega) (fun q hq => (own_tag HO.out hq).1)
              have HO2 := Lib.hid (show w2.ownsRow w.heap.size 3 1 v2 (out ++ [who]).length ((out ++ [who]).map (Value.int .i64)) by simpa using hown2)
              have HB2 := Lib.hid hB2
              obtain ⟨ad2, y2, e2, hy2, h02⟩ := (HA.out.later hB2).get hlt
              obtain rfl := Option.some.inj e2
              obtain rfl := Option.some.inj (HY.out.symm.trans hy2)
              have hsz2 := hB2.size
              have hol2 : (out ++ [who]).length ≤ yes.length + 2 := by rw [List.length_append]; simp; omega
              clear hB2 hown2 hg2 e2 hy2 h0 hxy
              go_wp2_with (at_builtin; refine wpList_append_own _ rfl (.tmp 64) (.tmp 69) 24 rfl w.heap.size 3 i0 _ 1 8 Try.underlying24 hi hz0 hz1 hz2 rfl (by omega) _ (out ++ [who]).length ((out ++ [who]).map (Value.int .i64)) rfl (HO2.out.alloc _) ⟨w2.heap.size, 0, none⟩ 1 1 [.int .i64 y] rfl rfl (one_cell_new w2 _ _) (by simp [Value.oneCell']) (by unfold maxLen; omega) (by omega) (by simp; omega) ?_; intro v3 w3 hown3 hg3 _)
              have hB3 := (HB2.out.alloc hsz2 (.cells #[.int .i64 y] 3)).grown hg3 (by simp; omega) (fun q hq => (own_tag HO2.out hq).1)
              go_roundw
              case rel => exact ⟨k + 1, true, out ++ [who] ++ [y], rfl, by go_num, by omega, Lib.hid (insK_here HI.out HY.out HXY.out), Lib.hid (by simpa using hown3), Lib.hid hB3⟩
              case measure => (simp [intOf]; try omega)
            · have HXY := Lib.hid hxy
              go_wp2_with (at_builtin; refine wpList_append_own _ rfl (.tmp 64) (.tmp 69) 24 rfl w.heap.size 3 i0 _ 1 8 Try.underlying24 hi hz0 hz1 hz2 rfl (by omega) _ (out).length ((out).map (Value.int .i64)) rfl (HO.out.alloc _) ⟨wr.heap.size, 0, none⟩ 1 1 [.int .i64 y] rfl rfl (one_cell_new wr _ _) (by simp [Value.oneCell']) (by unfold maxLen; omega) (by omega) (by simp; omega) ?_; intro v2 w2 hown2 hg2 _)
              have hB2 := (HB.out.alloc hsz (.cells #[.int .i64 y] 3)).grown hg2 (by simp; omega) (fun q hq => (own_tag HO.out hq).1)
              go_roundw
              case rel => exact ⟨k + 1, false, out ++ [y], rfl, by go_num, by omega, Lib.hid (insK_not HI.out HY.out HXY.out), Lib.hid (by simpa using hown2), Lib.hid hB2⟩
              case measure => (simp [intOf]; try omega)
        · obtain rfl : k = yes.length := by omega
          have hlk : ¬ (yes.length : Int) < (yes.length : Int) := by omega
          have hsz := HB.out.size
          have hie := insK_end HI.out
          rw [← E1.out] at hie
          cases bb with
          | true =>
            have hie : out = ys := hie
            subst hie
            obtain ⟨B, b, rfl, hB, _⟩ := intsC_of_own HO.out
            have HB2 := Lib.hid hB
            have HBB := Lib.hid HB.out
            clear hB
            cases no with
            | true =>
              go_wp2_with fail
              exact bodyPost_ret (results_tmp3 rfl _ _ _) rfl ⟨B, b, by rw [E2.out, E3.out]; rfl, HB2.out, HBB.out⟩
            | false =>
              go_wp2_with fail
              exact bodyPost_ret (results_tmp3 rfl _ _ _) rfl ⟨B, b, by rw [E2.out, E3.out, HND.out]; rfl, HB2.out, HBB.out⟩
          | false =>
            have HE := Lib.hid (show ys = out ++ [who] from hie.symm)
            clear hie
            cases no with
            | true =>
              go_wp2_with (at_builtin; refine wpList_append_own _ rfl (.tmp 73) (.tmp 75) 24 rfl w.heap.size 3 i0 _ 1 8 Try.underlying24 hi hz0 hz1 hz2 rfl (by omega) _ (out).length ((out).map (Value.int .i64)) rfl (HO.out.alloc _) ⟨wr.heap.size, 0, none⟩ 1 1 [.int .i64 who] rfl rfl (one_cell_new wr _ _) (by simp [Value.oneCell']) (by unfold maxLen; omega) (by omega) (by simp; omega) ?_; intro v2 w2 hown2 hg2 _; obtain ⟨B, b, rfl, hB, _⟩ := intsC_of_own (zs := ys) (by rw [HE.out]; simpa using hown2); have HB2 := Lib.hid hB; have HBB := Lib.hid ((HB.out.alloc hsz (.cells #[.int .i64 who] 3)).grown hg2 (by simp; omega) (fun q hq => (own_tag HO.out hq).1)); clear hB hown2 hg2)
              exact bodyPost_ret (results_tmp3 rfl _ _ _) rfl ⟨B, b, by rw [E2.out, E3.out]; rfl, HB2.out, HBB.out⟩
            | false =>
              go_wp2_with (at_builtin; refine wpList_append_own _ rfl (.tmp 73) (.tmp 75) 24 rfl w.heap.size 3 i0 _ 1 8 Try.underlying24 hi hz0 hz1 hz2 rfl (by omega) _ (out).length ((out).map (Value.int .i64)) rfl (HO.out.alloc _) ⟨wr.heap.size, 0, none⟩ 1 1 [.int .i64 who] rfl rfl (one_cell_new wr _ _) (by simp [Value.oneCell']) (by unfold maxLen; omega) (by omega) (by simp; omega) ?_; intro v2 w2 hown2 hg2 _; obtain ⟨B, b, rfl, hB, _⟩ := intsC_of_own (zs := ys) (by rw [HE.out]; simpa using hown2); have HB2 := Lib.hid hB; have HBB := Lib.hid ((HB.out.alloc hsz (.cells #[.int .i64 who] 3)).grown hg2 (by simp; omega) (fun q hq => (own_tag HO.out hq).1)); clear hB hown2 hg2)
              exact bodyPost_ret (results_tmp3 rfl _ _ _) rfl ⟨B, b, by rw [E2.out, E3.out, HND.out]; rfl, HB2.out, HBB.out⟩
end
end Go.Proofs.Ythmjeibanofliaa
