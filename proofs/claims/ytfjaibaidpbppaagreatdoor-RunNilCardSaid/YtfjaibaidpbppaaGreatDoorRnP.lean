/-
  Which pipelines may be, when two are the same; a text's pipeline may be. Plain facts: no program is named here. A text, byte by byte; what is wrong in it is wrong with lines behind it, too. Plain facts: no program is named here. Runs in plain words: what each call makes of one, and what it answers. No program is named here.
-/
import Derived.Test.YtfjaibaidpbppaaGreatDoorLsX
import Derived.Test.YtfjaibaidpbppaaGreatDoorRd1
import Derived.Test.YtfjaibaidpbppaaGreatDoorLexS
namespace Go.Proofs.YtfjaibaidpbppaaGreatDoor

structure TaskOk (n : Nat) (t : TkP) : Prop where
  name : nameOk t.name
  time : 1 ≤ t.time ∧ t.time ≤ 100
  need : 0 ≤ t.need ∧ t.need ≤ 4
  retry : 0 ≤ t.retry ∧ t.retry ≤ 5
  lab : 0 ≤ t.lv ∧ t.lv ≤ 7 ∧ 0 ≤ t.st ∧ t.st ≤ 65535
  plain : t.need = 0 → t.lv = 0 ∧ t.st = 0
  gate : 0 < t.need → t.retry = 0
  aft : (∀ j ∈ t.after, j < n) ∧ t.after.Nodup
structure RightPi (p : PiP) : Prop where
  name : nameOk p.name
  few : 1 ≤ p.tasks.length ∧ p.tasks.length ≤ 8
  task : ∀ t ∈ p.tasks, TaskOk p.tasks.length t
  names : (p.tasks.map (·.name)).Nodup
def sameT (t u : TkP) : Bool := decide (t.name = u.name) && decide (t.retry = u.retry) && decide (t.time = u.time) && decide (t.need = u.need) && decide (t.lv = u.lv ∧ t.st = u.st) && decide (t.after = u.after)
def sameL : List TkP → List TkP → Bool
  | [], [] => true
  | t :: ts, u :: us => sameT t u && sameL ts us
  | _, _ => false
def sameP (p q : PiP) : Bool := decide (p.name = q.name) && sameL p.tasks q.tasks
theorem sameT_iff {t u : TkP} : sameT t u = true ↔ t = u := by
  obtain ⟨n1, a1, r1, t1, e1, l1, s1⟩ := t
  obtain ⟨n2, a2, r2, t2, e2, l2, s2⟩ := u
  simp only [sameT, Bool.and_eq_true, decide_eq_true_eq, TkP.mk.injEq]
  constructor
  · rintro ⟨⟨⟨⟨⟨h1, h2⟩, h3⟩, h4⟩, h5, h6⟩, h7⟩
    exact ⟨h1, h7, h2, h3, h4, h5, h6⟩
  · rintro ⟨h1, h7, h2, h3, h4, h5, h6⟩
    exact ⟨⟨⟨⟨⟨h1, h2⟩, h3⟩, h4⟩, h5, h6⟩, h7⟩
theorem sameL_iff : ∀ {ts us : List TkP}, sameL ts us = true ↔ ts = us
  | [], [] => by simp [sameL]
  | t :: ts, u :: us => by simp [sameL, sameT_iff, sameL_iff (ts := ts) (us := us)]
  | [], u :: us => by simp [sameL]
  | t :: ts, [] => by simp [sameL]
theorem sameP_iff {p q : PiP} : sameP p q = true ↔ p = q := by
  cases p
  cases q
  simp [sameP, sameL_iff]
theorem sameL_len : ∀ {ts us : List TkP}, ts.length ≠ us.length → sameL ts us = false
  | [], [], h => absurd rfl h
  | t :: ts, u :: us, h => by
    rw [sameL, sameL_len (ts := ts) (us := us) (fun e => h (by simp [e])), Bool.and_false]
  | [], u :: us, _ => rfl
  | t :: ts, [], _ => rfl

/-- What holds of a line's task, as far as it is told. -/
structure LnInv (g : Bool) (x : LnP) : Prop where
  name : nameOk x.name
  time : 1 ≤ x.time ∧ x.time ≤ 100
  need : 0 ≤ x.need ∧ x.need ≤ 4
  retry : 0 ≤ x.retry ∧ x.retry ≤ 5
  lab : 0 ≤ x.lv ∧ x.lv ≤ 7 ∧ 0 ≤ x.st ∧ x.st ≤ 65535
  plain : g = false → x.need = 0 ∧ x.lv = 0 ∧ x.st = 0
  gate : g = true → x.retry = 0
  aft : (x.after.map (·.t)).Nodup
theorem dupGo_none (l : List Wd) : ∀ (f i : Nat), dupGo l f i = none → ∀ j, i ≤ j → j < i + f → memB (l.getD j default).t ((l.take j).map (·.t)) = false
  | 0, i, _, j, h1, h2 => absurd h2 (by omega)
  | f + 1, i, h, j, h1, h2 => by
    rw [dupGo] at h
    split at h
    · cases h
    · rename_i hm
      rcases Nat.eq_or_lt_of_le h1 with rfl | h3
      · simpa using hm
      · exact dupGo_none l f (i + 1) h j h3 (by omega)
theorem dup_none {l : List Wd} (h : dupP l = none) : (l.map (·.t)).Nodup := by
  have h2 := dupGo_none l l.length 0 h
  rw [List.nodup_iff_pairwise_ne, List.pairwise_iff_getElem]
  intro i j hi hj hij e
  rw [List.length_map] at hi hj
  have h3 := h2 j (Nat.zero_le _) (by omega)
  have h4 : l.getD j default = l[j] := by rw [List.getD_eq_getElem?_getD, List.getElem?_eq_getElem hj]; rfl
  have h5 : memB (l[j]).t ((l.take j).map (·.t)) = true := memB_iff.2 (List.mem_map.2 ⟨l[i], List.mem_take_iff_getElem.2 ⟨i, by omega, rfl⟩, by simpa using e⟩)
  rw [h4, h5] at h3
  cases h3
theorem lab_some {s : ByteArray} {a b : Int} (h : labP s = some (a, b)) : 0 ≤ a ∧ a ≤ 7 ∧ 0 ≤ b ∧ b ≤ 65535 := by
  unfold labP at h
  split at h
  · rename_i hg
    obtain ⟨_, _, h0, h7, hd⟩ := hg
    have hr := setV_range s 4 hd
    injection h with h
    injection h with h1 h2
    subst h1 h2
    omega
  · cases h
theorem num_some {s : ByteArray} {lo hi n : Int} (h : numP s lo hi = some n) : lo ≤ n ∧ n ≤ hi := by
  unfold numP at h
  split at h
  · rename_i hc
    injection h with h
    subst h
    exact ⟨hc.2.1, hc.2.2⟩
  · cases h
theorem value_inv {g : Bool} {x x' : LnP} {word : ByteArray} {w : Wd} (hm : memB word (wordsP g) = true) (hx : LnInv g x) (h : valueP x word w = .inr x') : LnInv g x' ∧ x'.name = x.name ∧ (word = sNeed → 1 ≤ x'.need) ∧ (1 ≤ x.need → 1 ≤ x'.need) := by
  obtain ⟨k1, k2, k3, k4, k5, k6, k7, k8⟩ := hx
  rcases val_word hm with rfl | rfl | rfl | rfl | rfl
  · rw [valueP, if_pos rfl] at h
    split at h
    · cases h
    · split at h
      · cases h
      · rename_i l _ hd
        injection h with h
        subst h
        exact ⟨⟨k1, k2, k3, k4, k5, k6, k7, dup_none hd⟩, rfl, fun e => absurd e (by decide), id⟩
  · rw [valueP, if_neg (by decide), if_neg (by decide), if_neg (by decide), if_pos rfl] at h
    split at h
    · cases h
    · rename_i n hn
      injection h with h
      subst h
      exact ⟨⟨k1, num_some hn, k3, k4, k5, k6, k7, k8⟩, rfl, fun e => absurd e (by decide), id⟩
  · rw [valueP, if_neg (by decide), if_pos rfl] at h
    split at h
    · cases h
    · rename_i a b hn
      injection h with h
      subst h
      refine ⟨⟨k1, k2, k3, k4, lab_some hn, fun hg => ?_, k7, k8⟩, rfl, fun e => absurd e (by decide), id⟩
      subst hg
      exact absurd hm (by decide)
  · rw [valueP, if_neg (by decide), if_neg (by decide), if_neg (by decide), if_neg (by decide), if_pos rfl] at h
    split at h
    · cases h
    · rename_i n hn
      injection h with h
      subst h
      have h4 := num_some hn
      refine ⟨⟨k1, k2, ⟨by show 0 ≤ n; omega, h4.2⟩, k4, k5, fun hg => ?_, k7, k8⟩, rfl, fun _ => h4.1, fun _ => h4.1⟩
      subst hg
      exact absurd hm (by decide)
  · rw [valueP, if_neg (by decide), if_neg (by decide), if_pos rfl] at h
    split at h
    · cases h
    · rename_i n hn
      injection h with h
      subst h
      refine ⟨⟨k1, k2, k3, num_some hn, k5, k6, fun hg => ?_, k8⟩, rfl, fun e => absurd e (by decide), id⟩
      subst hg
      exact absurd hm (by decide)
theorem pairs_inv {g : Bool} : ∀ (l : List Wd) (seen : List ByteArray) (x : LnP) (y : LnP × List ByteArray), LnInv g x → (sNeed ∈ seen → 1 ≤ x.need) → pairsP g seen x l = .inr y → LnInv g y.1 ∧ y.1.name = x.name ∧ (sNeed ∈ y.2 → 1 ≤ y.1.need)
  | [], seen, x, y, hx, hs, h => by
    rw [pairsP] at h
    injection h with h
    subst h
    exact ⟨hx, rfl, hs⟩
  | [a], seen, x, y, hx, hs, h => by
    rw [pairsP] at h
    split at h
    · cases h
    · split at h
      · cases h
      · cases h
  | a :: b :: r, seen, x, y, hx, hs, h => by
    rw [pairsP] at h
    split at h
    · cases h
    · rename_i hm
      split at h
      · cases h
      · split at h
        · cases h
        · rename_i x' hx'
          obtain ⟨h1, h2, h3, h4⟩ := value_inv (by simpa using hm) hx hx'
          obtain ⟨h5, h6, h7⟩ := pairs_inv r _ x' y h1 (fun hn => by
            rcases List.mem_append.1 hn with hn | hn
            · exact h4 (hs hn)
            · exact h3 (List.mem_singleton.1 hn).symm) h
          exact ⟨h5, h6.trans h2, h7⟩
theorem name_ok {s : ByteArray} (h : ¬ nameP s = false) : nameOk s := by
  have h2 : nameP s = true := by simpa using h
  exact of_decide_eq_true h2
theorem ln0_inv {g : Bool} {n : ByteArray} (h : nameOk n) : LnInv g (ln0 n) := by
  refine ⟨h, ?_, ?_, ?_, ?_, fun _ => ⟨rfl, rfl, rfl⟩, fun _ => rfl, List.nodup_nil⟩ <;> simp [ln0]
/-- A line's task. -/
structure LnFin (x : LnP) : Prop where
  name : nameOk x.name
  time : 1 ≤ x.time ∧ x.time ≤ 100
  need : 0 ≤ x.need ∧ x.need ≤ 4
  retry : 0 ≤ x.retry ∧ x.retry ≤ 5
  lab : 0 ≤ x.lv ∧ x.lv ≤ 7 ∧ 0 ≤ x.st ∧ x.st ≤ 65535
  plain : x.need = 0 → x.lv = 0 ∧ x.st = 0
  gate : 0 < x.need → x.retry = 0
  aft : (x.after.map (·.t)).Nodup
theorem line_inv {l : List Wd} {names : List ByteArray} {x : LnP} (h : lineP l names = .inr x) : LnFin x ∧ x.name ∉ names ∧ names.length ≠ 8 := by
  unfold lineP at h
  dsimp only at h
  split at h
  · cases h
  · rename_i h8
    split at h
    · cases h
    · split at h
      · cases h
      · split at h
        · cases h
        · rename_i hn
          split at h
          · cases h
          · rename_i hm
            split at h
            · cases h
            · rename_i y seen he
              split at h
              · cases h
              · rename_i hg
                injection h with h
                subst h
                obtain ⟨h1, h2, h3⟩ := pairs_inv (l.drop 2) [] (ln0 (l.getD 1 default).t) (y, seen) (ln0_inv (name_ok hn)) (fun hs => absurd hs (by simp)) he
                dsimp only at h1 h2 h3
                have hnm : y.name = (l.getD 1 default).t := h2
                refine ⟨⟨h1.name, h1.time, h1.need, h1.retry, h1.lab, fun e => ?_, fun e => ?_, h1.aft⟩, fun hin => hm (memB_iff.2 (hnm ▸ hin)), h8⟩
                · by_cases hgt : (l.getD 0 default).t = sGate
                  · have hs : memB sNeed seen = true := by
                      cases hb : memB sNeed seen with
                      | true => rfl
                      | false => exact absurd ⟨hgt, .inr hb⟩ hg
                    have := h3 (memB_iff.1 hs)
                    omega
                  · exact (h1.plain (decide_eq_false hgt)).2
                · by_cases hgt : (l.getD 0 default).t = sGate
                  · exact h1.gate (decide_eq_true hgt)
                  · have := (h1.plain (decide_eq_false hgt)).1
                    omega
theorem lines_inv : ∀ (L : List (List Wd)) (acc xs : List LnP), (∀ x ∈ acc, LnFin x) → (acc.map (·.name)).Nodup → acc.length ≤ 8 → linesP acc L = .inr xs → (∀ x ∈ xs, LnFin x) ∧ (xs.map (·.name)).Nodup ∧ xs.length ≤ 8
  | [], acc, xs, h1, h2, h3, h => by
    rw [linesP] at h
    injection h with h
    subst h
    exact ⟨h1, h2, h3⟩
  | l :: L, acc, xs, h1, h2, h3, h => by
    rw [linesP] at h
    split at h
    · cases h
    · rename_i x hx
      obtain ⟨k1, k2, k3⟩ := line_inv hx
      refine lines_inv L (acc ++ [x]) xs (fun y hy => ?_) ?_ ?_ h
      · rcases List.mem_append.1 hy with hy | hy
        · exact h1 y hy
        · obtain rfl := List.mem_singleton.1 hy
          exact k1
      · rw [List.map_append, List.nodup_append]
        refine ⟨h2, List.nodup_cons.2 ⟨by simp, List.nodup_nil⟩, fun a ha b hb e => ?_⟩
        obtain rfl := List.mem_singleton.1 hb
        exact k2 (by have e2 : a = x.name := e; rw [← e2]; exact ha)
      · rw [List.length_map] at k3
        rw [List.length_append]
        show acc.length + 1 ≤ 8
        omega
theorem find_some {l : List ByteArray} {x : ByteArray} {n : Nat} (h : findP l x = some n) : l[n]? = some x := by
  unfold findP at h
  rw [List.findIdx?_eq_some_iff_getElem] at h
  obtain ⟨hn, h1, _⟩ := h
  rw [List.getElem?_eq_getElem hn, of_decide_eq_true h1]
/-- The places of a task's names. -/
theorem places_inv (names : List ByteArray) : ∀ (ws : List Wd) (acc out : List Nat) (ts : List ByteArray), acc.map (fun n => names[n]?) = ts.map some → placesP names acc ws = .inr out → out.map (fun n => names[n]?) = (ts ++ ws.map (·.t)).map some
  | [], acc, out, ts, h1, h => by
    rw [placesP] at h
    injection h with h
    subst h
    simpa using h1
  | w :: ws, acc, out, ts, h1, h => by
    rw [placesP] at h
    split at h
    · cases h
    · rename_i n hn
      have h2 := places_inv names ws (acc ++ [n]) out (ts ++ [w.t]) (by rw [List.map_append, List.map_append, h1]; simp [find_some hn]) h
      rw [h2]
      simp
theorem places_ok {names : List ByteArray} {ws : List Wd} {out : List Nat} (hd : (ws.map (·.t)).Nodup) (h : placesP names [] ws = .inr out) : (∀ j ∈ out, j < names.length) ∧ out.Nodup := by
  have h2 := places_inv names ws [] out [] rfl h
  rw [List.nil_append] at h2
  constructor
  · intro j hj
    have h3 : names[j]? ∈ out.map (fun n => names[n]?) := List.mem_map.2 ⟨j, hj, rfl⟩
    rw [h2] at h3
    obtain ⟨y, _, hy⟩ := List.mem_map.1 h3
    exact (List.getElem?_eq_some_iff.1 hy.symm).1
  · have h3 : (out.map (fun n => names[n]?)).Nodup := by
      rw [h2]
      exact hd.map some (fun a b hab e => hab (by injection e))
    exact List.Pairwise.of_map (fun n => names[n]?) (fun a b hab e => hab (by rw [e])) h3
theorem tasks_inv {names : List ByteArray} {n : Nat} (hn : names.length = n) : ∀ (xs : List LnP) (acc ts : List TkP), (∀ x ∈ xs, LnFin x) → (∀ t ∈ acc, TaskOk n t) → tasksP names acc xs = .inr ts → (∀ t ∈ ts, TaskOk n t) ∧ ts.map (·.name) = acc.map (·.name) ++ xs.map (·.name)
  | [], acc, ts, h1, h2, h => by
    rw [tasksP] at h
    injection h with h
    subst h
    exact ⟨h2, by simp⟩
  | x :: xs, acc, ts, h1, h2, h => by
    rw [tasksP] at h
    split at h
    · cases h
    · rename_i a ha
      have hx := h1 x (by simp)
      obtain ⟨k1, k2⟩ := places_ok hx.aft ha
      obtain ⟨h3, h4⟩ := tasks_inv hn xs _ ts (fun y hy => h1 y (by simp [hy])) (fun t ht => by
        rcases List.mem_append.1 ht with ht | ht
        · exact h2 t ht
        · obtain rfl := List.mem_singleton.1 ht
          exact ⟨hx.name, hx.time, hx.need, hx.retry, hx.lab, hx.plain, hx.gate, fun j hj => hn ▸ k1 j hj, k2⟩) h
      exact ⟨h3, by rw [h4]; simp⟩
/-- A text's pipeline may be. -/
theorem parse_right {s : ByteArray} {p : PiP} (h : parseP s = .inr p) : RightPi p := by
  unfold parseP at h
  split at h
  · cases h
  · cases h
  · split at h
    · cases h
    · split at h
      · cases h
      · split at h
        · cases h
        · rename_i hn
          split at h
          · cases h
          · cases h
          · rename_i L xs hne hxs
            split at h
            · cases h
            · rename_i ts hts
              injection h with h
              subst h
              obtain ⟨h1, h2, h3⟩ := lines_inv _ [] _ (fun x hx => absurd hx (by simp)) List.nodup_nil (Nat.zero_le _) hxs
              obtain ⟨h4, h5⟩ := tasks_inv (List.length_map _) xs [] ts h1 (fun t ht => absurd ht (by simp)) hts
              have h6 : ts.length = xs.length := by
                have := congrArg List.length h5
                simpa using this
              refine ⟨name_ok hn, ⟨?_, by show ts.length ≤ 8; omega⟩, fun t ht => ?_, ?_⟩
              · show 1 ≤ ts.length
                cases xs with
                | nil => exact absurd rfl hne
                | cons x xs => rw [h6]; simp
              · show TaskOk ts.length t
                rw [h6]
                exact h4 t ht
              · show (ts.map (·.name)).Nodup
                rw [h5]
                simpa using h2
end Go.Proofs.YtfjaibaidpbppaaGreatDoor

namespace Go.Proofs.YtfjaibaidpbppaaGreatDoor

/-- One byte more: what is held, or nothing, if it may not be. -/
def stepW (b : UInt8) (k : Nat) (st : LxS) : Option LxS :=
  if isW b.toNat then some (st.push (ofL [b]) k) else if b.toNat = 10 then some st.feed else if b.toNat = 32 then some st.space else none
/-- Some bytes more: what is held, or the place of the first one that may not be. -/
def goW : List UInt8 → Nat → LxS → Nat ⊕ LxS
  | [], _, st => .inr st
  | b :: l, k, st => match stepW b k st with
    | none => .inl k
    | some st' => goW l (k + 1) st'
theorem goW_append : ∀ (a b : List UInt8) (k : Nat) (st : LxS), goW (a ++ b) k st = match goW a k st with
    | .inl p => .inl p
    | .inr st' => goW b (k + a.length) st'
  | [], b, k, st => by simp [goW]
  | c :: a, b, k, st => by
    rw [List.cons_append, goW, goW]
    cases stepW c k st with
    | none => rfl
    | some st' =>
      dsimp only
      rw [goW_append a b (k + 1) st', List.length_cons, show k + 1 + a.length = k + (a.length + 1) by omega]
theorem goW_more {a b : List UInt8} {k : Nat} {st st' : LxS} (h : goW a k st = .inr st') : goW (a ++ b) k st = goW b (k + a.length) st' := by rw [goW_append, h]
theorem goW_bad {a b : List UInt8} {k p : Nat} {st : LxS} (h : goW a k st = .inl p) : goW (a ++ b) k st = .inl p := by rw [goW_append, h]
def endW : Nat ⊕ LxS → LxR
  | .inl p => .bad 3 p
  | .inr st => .good st.feed.out
theorem lexGo_goW (s : ByteArray) : ∀ (f k : Nat) (st : LxS), k + f = s.size → lexGo s f k st = endW (goW ((bl s).drop k) k st)
  | 0, k, st, h => by
    have : (bl s).drop k = [] := List.drop_eq_nil_of_le (by rw [bl_len]; omega)
    rw [lexGo_end, this]
    rfl
  | f + 1, k, st, h => by
    have hk : k < (bl s).length := by rw [bl_len]; omega
    have hb : byL s k = ((bl s)[k].toNat : Int) := by
      unfold byL
      rw [List.getD_eq_getElem?_getD, List.getElem?_eq_getElem hk]
      rfl
    have he : s.extract k (k + 1) = ofL [(bl s)[k]] := by
      apply bl_inj
      rw [bl_extract, bl_ofL, List.drop_take, show k + 1 - k = 1 by omega, List.drop_eq_getElem_cons hk]
      rfl
    rw [List.drop_eq_getElem_cons hk, goW, stepW]
    generalize (bl s)[k] = b at hb he
    by_cases h1 : isW b.toNat = true
    · have h2 : 32 < b.toNat ∧ b.toNat < 127 := by simpa [isW] using h1
      rw [if_pos h1, lexGo_word (by omega) (by omega), he]
      exact lexGo_goW s f (k + 1) _ (by omega)
    · have h2 : ¬ (32 < b.toNat ∧ b.toNat < 127) := fun h => h1 (by simpa [isW] using h)
      rw [if_neg h1]
      by_cases h3 : b.toNat = 10
      · rw [if_pos h3, lexGo_feed (by omega)]
        exact lexGo_goW s f (k + 1) _ (by omega)
      · rw [if_neg h3]
        by_cases h4 : b.toNat = 32
        · rw [if_pos h4, lexGo_space (by omega)]
          exact lexGo_goW s f (k + 1) _ (by omega)
        · rw [if_neg h4, lexGo_bad (by omega) (by omega) (by omega)]
          rfl
theorem lexP_goW {s : ByteArray} (h : s.size ≤ 600) : lexP s = endW (goW (bl s) 0 lx0) := by
  unfold lexP
  rw [if_neg (by omega), lexGo_goW s s.size 0 lx0 (by omega)]
  rfl
/-- Bytes that may be only add lines. -/
theorem goW_fine : ∀ (l : List UInt8) (k : Nat) (st : LxS), (∀ b ∈ l, b.toNat = 10 ∨ (32 ≤ b.toNat ∧ b.toNat ≤ 126)) → ∃ st' L, goW l k st = .inr st' ∧ st'.out = st.out ++ L
  | [], k, st, _ => ⟨st, [], rfl, by simp⟩
  | b :: l, k, st, h => by
    have hb := h b (by simp)
    have hl := fun c hc => h c (List.mem_cons_of_mem _ hc)
    obtain ⟨st1, L1, h1, h2⟩ : ∃ st1 L1, stepW b k st = some st1 ∧ st1.out = st.out ++ L1 := by
      unfold stepW
      split
      · exact ⟨_, [], rfl, by simp [LxS.push]⟩
      · rename_i hw
        split
        · refine ⟨_, if st.done = [] then [] else [st.done], rfl, ?_⟩
          show (if st.done = [] then st.out else st.out ++ [st.done]) = _
          split <;> simp
        · rename_i h10
          split
          · exact ⟨_, [], rfl, by simp [LxS.space]⟩
          · rename_i h32
            exfalso
            apply hw
            simp [isW]
            omega
    obtain ⟨st2, L2, h3, h4⟩ := goW_fine l (k + 1) st1 hl
    refine ⟨st2, L1 ++ L2, ?_, by rw [h4, h2, List.append_assoc]⟩
    rw [goW, h1]
    exact h3
theorem feed_more_out (st : LxS) : ∃ L, st.feed.out = st.out ++ L := by
  refine ⟨if st.done = [] then [] else [st.done], ?_⟩
  show (if st.done = [] then st.out else st.out ++ [st.done]) = _
  split <;> simp
/-- A text with lines behind it: wrong where it was, or its lines are ahead of others. -/
theorem lex_more {s m : ByteArray} (hz : s.size + m.size ≤ 599) (hm : ∀ b ∈ bl m, b.toNat = 10 ∨ (32 ≤ b.toNat ∧ b.toNat ≤ 126)) :
    (∀ e p, lexP s = .bad e p → lexP (s ++ ofL [10] ++ m) = .bad e p) ∧ (∀ L, lexP s = .good L → ∃ L', lexP (s ++ ofL [10] ++ m) = .good (L ++ L')) := by
  have hs2 : (s ++ ofL [10] ++ m).size ≤ 600 := by
    rw [ByteArray.size_append, ByteArray.size_append, ofL_size]
    simp
    omega
  rw [lexP_goW (s := s) (by omega), lexP_goW hs2, bl_append, bl_append, bl_ofL, List.append_assoc]
  cases hg : goW (bl s) 0 lx0 with
  | inl q =>
    rw [goW_bad hg]
    exact ⟨fun e p h => h, fun L h => by cases h⟩
  | inr st =>
    rw [goW_more hg]
    refine ⟨fun e p h => (by cases h), fun L h => ?_⟩
    injection h with h
    subst h
    obtain ⟨st2, L2, h3, h4⟩ := goW_fine (bl m) (0 + (bl s).length + 1) st.feed hm
    obtain ⟨L3, h5⟩ := feed_more_out st2
    refine ⟨L2 ++ L3, ?_⟩
    have h6 : goW ([10] ++ bl m) (0 + (bl s).length) st = .inr st2 := h3
    rw [h6]
    show LxR.good st2.feed.out = _
    rw [h5, h4, List.append_assoc]
theorem lines_append : ∀ (L M : List (List Wd)) (acc : List LnP) (f : FaP), linesP acc L = .inl f → linesP acc (L ++ M) = .inl f
  | [], M, acc, f, h => by rw [linesP] at h; cases h
  | l :: L, M, acc, f, h => by
    rw [List.cons_append]
    cases hl : lineP l (acc.map (·.name)) with
    | inl g =>
      rw [lines_bad hl] at h ⊢
      exact h
    | inr x =>
      rw [lines_good hl] at h ⊢
      exact lines_append L M _ f h
theorem places_err (names : List ByteArray) : ∀ (ws : List Wd) (acc : List Nat) (f : FaP), placesP names acc ws = .inl f → f.e = 6
  | [], acc, f, h => by rw [placesP] at h; cases h
  | w :: ws, acc, f, h => by
    rw [placesP] at h
    split at h
    · injection h with h
      rw [← h]
    · exact places_err names ws _ f h
theorem tasks_err (names : List ByteArray) : ∀ (xs : List LnP) (acc : List TkP) (f : FaP), tasksP names acc xs = .inl f → f.e = 6
  | [], acc, f, h => by rw [tasksP] at h; cases h
  | x :: xs, acc, f, h => by
    rw [tasksP] at h
    split at h
    · rename_i g hg
      injection h with h
      subst h
      exact places_err _ _ _ _ hg
    · exact tasks_err names xs _ f h
/-- What is wrong in a text's line is wrong there with any lines behind it. -/
theorem parse_first {s m : ByteArray} (hz : s.size + m.size ≤ 599) (hm : ∀ b ∈ bl m, b.toNat = 10 ∨ (32 ≤ b.toNat ∧ b.toNat ≤ 126)) {f : FaP} (h : parseP s = .inl f) (h6 : f.e ≠ 6) : parseP (s ++ ofL [10] ++ m) = .inl f := by
  obtain ⟨k1, k2⟩ := lex_more hz hm
  unfold parseP at h
  split at h
  · rename_i e p hl
    rw [parse_lex (k1 e p hl)]
    exact h
  · injection h with h
    exact absurd (by rw [← h]) h6
  · rename_i l0 L hl
    obtain ⟨L', hL⟩ := k2 _ hl
    unfold parseP
    rw [hL, List.cons_append]
    dsimp only
    split at h
    · rename_i hc
      rw [if_pos hc]
      exact h
    · rename_i hc
      rw [if_neg hc]
      split at h
      · rename_i hc
        rw [if_pos hc]
        exact h
      · rename_i hc
        rw [if_neg hc]
        split at h
        · rename_i hc
          rw [if_pos hc]
          exact h
        · rename_i hc
          rw [if_neg hc]
          split at h
          · rename_i g hg
            rw [lines_append L L' [] g hg]
            exact h
          · injection h with h
            exact absurd (by rw [← h]) h6
          · split at h
            · rename_i g hg
              injection h with h
              subst h
              exact absurd (tasks_err _ _ _ _ hg) h6
            · cases h
theorem lines_err : ∀ (L : List (List Wd)) (acc : List LnP) (f : FaP), linesP acc L = .inl f → (f.e : Int) ≠ 0
  | [], acc, f, h => by rw [linesP] at h; cases h
  | l :: L, acc, f, h => by
    rw [linesP] at h
    split at h
    · rename_i g hg
      injection h with h
      subst h
      exact line_err hg
    · exact lines_err L _ f h
/-- What is wrong has a number. -/
theorem parse_err {s : ByteArray} {f : FaP} (h : parseP s = .inl f) : (f.e : Int) ≠ 0 := by
  unfold parseP at h
  split at h
  · rename_i e p hl
    injection h with h
    rw [← h]
    exact lexP_bad hl
  · injection h with h
    rw [← h]
    simp
  · split at h
    · injection h with h
      rw [← h]
      simp
    · split at h
      · injection h with h
        rw [← h]
        simp
      · split at h
        · injection h with h
          rw [← h]
          simp
        · split at h
          · rename_i g hg
            injection h with h
            subst h
            exact lines_err _ _ _ hg
          · injection h with h
            rw [← h]
            simp
          · split at h
            · rename_i g hg
              injection h with h
              subst h
              have := tasks_err _ _ _ _ hg
              omega
            · cases h
/-- Unlike numbers below n: at most n of them. -/
theorem few_below : ∀ (n : Nat) (l : List Nat), (∀ j ∈ l, j < n) → l.Nodup → l.length ≤ n
  | 0, l, h, _ => by
    cases l with
    | nil => exact Nat.le_refl _
    | cons x l => exact absurd (h x (by simp)) (Nat.not_lt_zero _)
  | n + 1, l, h, hd => by
    have h1 := few_below n (l.erase n) (fun j hj => by
      obtain ⟨h2, h3⟩ := (hd.mem_erase_iff).1 hj
      have := h j h3
      omega) (hd.erase n)
    have h2 := List.length_erase (a := n) (l := l)
    split at h2 <;> omega
end Go.Proofs.YtfjaibaidpbppaaGreatDoor

namespace Go.Proofs.YtfjaibaidpbppaaGreatDoor
open Go.RowKit

/-- A task's (or gate's) place in a run: its try, its output, its votes. -/
structure PlP where
  tr : TrP
  out : ByteArray
  yes : List Int
  no : Bool
abbrev noPl : PlP := ⟨noTr, .empty, [], false⟩
structure RunP where
  pn : ByteArray
  ts : List TkP
  ps : List PlP
  over : Bool
abbrev noTk : TkP := ⟨.empty, [], 0, 0, 0, 0, 0⟩
def RunP.tk (z : RunP) (i : Nat) : TkP := z.ts.getD i noTk
def RunP.pl (z : RunP) (i : Nat) : PlP := z.ps.getD i noPl
/-- Are all of these done? -/
def plDone (ps : List PlP) (l : List Nat) : Bool := l.all fun a => (ps.getD a noPl).tr.st == 3
def advPl (ps : List PlP) (now : Int) (t : TkP) (p : PlP) : PlP := if plDone ps t.after then { p with tr := openP p.tr now } else p
def advR (z : RunP) (now : Int) : RunP := { z with ps := List.zipWith (advPl z.ps now) z.ts z.ps }
/-- How it stands: 0 running, 1 succeeded, 2 failed, 3 cancelled. -/
def statR (z : RunP) : Int := if z.over then 3 else if z.ps.any (fun p => p.tr.st == 4) then 2 else if z.ps.all (fun p => p.tr.st == 3) then 1 else 0
def newR (n : ByteArray) (ts : List TkP) (now : Int) : RunP := advR ⟨n, ts, List.replicate ts.length noPl, false⟩ now
def setPl (now : Int) (t : TkP) (p : PlP) : PlP := if t.need = 0 then { p with tr := settleP p.tr now t.retry } else if p.tr.st = 1 ∧ p.tr.sn + t.time ≤ now then { p with tr := ⟨4, 0, p.tr.ms, 0, 0, 0⟩ } else p
def setR (z : RunP) (now : Int) : RunP := if statR z = 0 then { z with ps := List.zipWith (setPl now) z.ts z.ps } else z
/-- Place i is another one. -/
def RunP.put (z : RunP) (i : Nat) (p : PlP) : RunP := { z with ps := z.ps.set i p }
/-- What is wrong with a task: 2 no place of one, 12 not running, or 0. -/
def taskE (z : RunP) (i : Int) : Int := if i < 0 ∨ (z.ps.length : Int) ≤ i ∨ 0 < (z.tk i.toNat).need then 2 else if statR z ≠ 0 then 12 else 0
def heldE (z : RunP) (i : Int) : Int := if taskE z i = 0 then (if (z.pl i.toNat).tr.st = 2 then 0 else 12) else taskE z i
def gateE (z : RunP) (i : Int) : Int := if i < 0 ∨ (z.ps.length : Int) ≤ i ∨ (z.tk i.toNat).need = 0 then 2 else if statR z ≠ 0 ∨ (z.pl i.toNat).tr.st ≠ 1 then 12 else 0
def takeR (z : RunP) (i now wk ls : Int) : RunP × Int := if taskE z i ≠ 0 then (z, taskE z i) else
  let x := takeP (z.pl i.toNat).tr now wk ls (z.tk i.toNat).time
  if x.2 ≠ 0 then (z, x.2) else (z.put i.toNat { z.pl i.toNat with tr := x.1 }, 0)
def compR (z : RunP) (i now : Int) (s : ByteArray) : RunP × Int := if heldE z i ≠ 0 then (z, heldE z i) else if 32 < s.size then (z, 1) else
  (advR (z.put i.toNat { z.pl i.toNat with tr := doneP (z.pl i.toNat).tr, out := s }) now, 0)
def missR (z : RunP) (i now : Int) : RunP × Int := if heldE z i ≠ 0 then (z, heldE z i) else
  (z.put i.toNat { z.pl i.toNat with tr := missP (z.pl i.toNat).tr now (z.tk i.toNat).retry }, 0)
def beatR (z : RunP) (i now : Int) : RunP × Int := if heldE z i ≠ 0 then (z, heldE z i) else
  (z.put i.toNat { z.pl i.toNat with tr := beatP (z.pl i.toNat).tr now (z.tk i.toNat).time }, 0)
/-- A vote: the run, whether it may go, the error. -/
def voteR (z : RunP) (i who : Int) (is : Bool) : RunP × Bool × Int :=
  if gateE z i ≠ 0 then (z, false, gateE z i) else if is && (z.pl i.toNat).yes.contains who then (z, false, 7) else
  let p := z.pl i.toNat
  let y := yesV p.yes who is
  let n := noV p.no is
  (z.put i.toNat { p with tr := if is then p.tr else ⟨4, 0, p.tr.ms, 0, 0, 0⟩, yes := y, no := n }, mayV y n (z.tk i.toNat).need, 0)
def letR (z : RunP) (i now : Int) : RunP × ByteArray × Int := if gateE z i ≠ 0 then (z, .empty, gateE z i) else
  let s := (z.pl ((z.tk i.toNat).after.getD 0 0)).out
  (advR (z.put i.toNat ⟨doneP (z.pl i.toNat).tr, s, [], false⟩) now, s, 0)
def cancelR (z : RunP) : RunP × Int := if statR z ≠ 0 then (z, 12) else ({ z with over := true }, 0)
/-- The first of the best from place i on; b is the best one so far. -/
def bestGo (now : Int) : List TkP → List PlP → Nat → Option (Nat × Int) → Option (Nat × Int)
  | t :: ts, p :: ps, i, b => bestGo now ts ps (i + 1) (if t.need = 0 ∧ p.tr.st = 1 ∧ p.tr.sn ≤ now ∧ (∀ x, b = some x → p.tr.sn < x.2) then some (i, p.tr.sn) else b)
  | _, _, _, b => b
instance (n : Int) (b : Option (Nat × Int)) : Decidable (∀ x, b = some x → n < x.2) := match b with
  | none => .isTrue (fun _ h => by cases h)
  | some y => if h : n < y.2 then .isTrue (fun x hx => by injection hx with hx; rw [← hx]; exact h) else .isFalse (fun k => h (k y rfl))
def bestR (z : RunP) (now : Int) : Int × Int × Bool := if statR z ≠ 0 then (-1, 0, false) else match bestGo now z.ts z.ps 0 none with
  | none => (-1, 0, false)
  | some (i, s) => ((i : Int), s, true)
def findGo (now wk ls : Int) : List TkP → List PlP → Nat → Option Nat
  | t :: ts, p :: ps, i => if t.need = 0 ∧ holdsP p.tr now wk ls = true then some i else findGo now wk ls ts ps (i + 1)
  | _, _, _ => none
def findR (z : RunP) (now wk ls : Int) : Int × Bool := if statR z ≠ 0 then (-1, false) else match findGo now wk ls z.ts z.ps 0 with
  | none => (-1, false)
  | some i => ((i : Int), true)
def inputR (z : RunP) (i : Int) : ByteArray := if i < 0 ∨ (z.ps.length : Int) ≤ i then .empty else (z.tk i.toNat).after.foldl (fun T k => txtsX T [(z.pl k).out]) .empty
def stateR (z : RunP) (i : Int) : Int := if i < 0 ∨ (z.ps.length : Int) ≤ i then -1 else (z.pl i.toNat).tr.st
/-! Its text, behind a text. -/
def bitI (b : Bool) : Int := if b then 1 else 0
def sixL (t : TrP) : List Int := [t.st, t.sn, t.ms, t.wk, t.ls, t.un]
def votsL (yes : List Int) (no : Bool) : List Int := (yes.length : Int) :: (yes ++ [bitI no])
def wTask (T : ByteArray) (t : TkP) : ByteArray := intsX (intsX (intsX (txtsX T [t.name]) [(t.after.length : Int)]) (t.after.map Int.ofNat)) [t.retry, t.time, t.need, t.lv, t.st]
def wPlace (T : ByteArray) (p : PlP) : ByteArray := intsX (txtsX (intsX T (sixL p.tr)) [p.out]) (votsL p.yes p.no)
def wRun (T : ByteArray) (z : RunP) : ByteArray := intsX (z.ps.foldl wPlace (z.ts.foldl wTask (intsX (txtsX T [z.pn]) [(z.ts.length : Int)]))) [bitI z.over]
def textR (z : RunP) : ByteArray := wRun .empty z
theorem ba_assoc (a b c : ByteArray) : a ++ b ++ c = a ++ (b ++ c) := by
  apply bl_inj
  simp only [bl_append, List.append_assoc]
theorem ba_right (a : ByteArray) : a ++ .empty = a := by
  apply bl_inj
  rw [bl_append]
  exact List.append_nil _
theorem intsX_at (T : ByteArray) (L : List Int) : intsX T L = T ++ intsX .empty L := by
  have h : ∀ (L : List Int) (A B : ByteArray), intsX (A ++ B) L = A ++ intsX B L := by
    intro L
    induction L with
    | nil => exact fun A B => rfl
    | cons x L ih =>
      intro A B
      show intsX (A ++ B ++ numX x) L = A ++ intsX (B ++ numX x) L
      rw [ba_assoc]
      exact ih A _
  have := h L T .empty
  rw [ba_right] at this
  exact this
theorem txtsX_at (T : ByteArray) (L : List ByteArray) : txtsX T L = T ++ txtsX .empty L := by
  have h : ∀ (L : List ByteArray) (A B : ByteArray), txtsX (A ++ B) L = A ++ txtsX B L := by
    intro L
    induction L with
    | nil => exact fun A B => rfl
    | cons x L ih =>
      intro A B
      show txtsX (A ++ B ++ (numX x.size ++ x)) L = A ++ txtsX (B ++ (numX x.size ++ x)) L
      rw [ba_assoc]
      exact ih A _
  have := h L T .empty
  rw [ba_right] at this
  exact this
theorem wTask_at (T : ByteArray) (t : TkP) : wTask T t = T ++ wTask .empty t := by
  unfold wTask
  rw [txtsX_at T, intsX_at (T ++ _), intsX_at (T ++ _ ++ _), intsX_at (T ++ _ ++ _ ++ _)]
  rw [intsX_at (txtsX .empty [t.name]), intsX_at (txtsX .empty [t.name] ++ _), intsX_at (txtsX .empty [t.name] ++ _ ++ _)]
  simp only [ba_assoc]
theorem wPlace_at (T : ByteArray) (p : PlP) : wPlace T p = T ++ wPlace .empty p := by
  unfold wPlace
  rw [intsX_at T, txtsX_at (T ++ _), intsX_at (T ++ _ ++ _), txtsX_at (intsX .empty (sixL p.tr)), intsX_at (intsX .empty (sixL p.tr) ++ _)]
  simp only [ba_assoc]
theorem fold_at {α : Type} {f : ByteArray → α → ByteArray} (h : ∀ T a, f T a = T ++ f .empty a) : ∀ (l : List α) (T : ByteArray), l.foldl f T = T ++ l.foldl f .empty
  | [], T => (ba_right T).symm
  | a :: l, T => by
    rw [List.foldl_cons, List.foldl_cons, fold_at h l, fold_at h l (f .empty a), h T, ba_assoc]
theorem wRun_at (T : ByteArray) (z : RunP) : wRun T z = T ++ textR z := by
  unfold textR wRun
  rw [txtsX_at T, intsX_at (T ++ _), fold_at wTask_at z.ts (T ++ _ ++ _), fold_at wPlace_at z.ps, intsX_at (T ++ _ ++ _ ++ _ ++ _)]
  rw [intsX_at (txtsX .empty [z.pn]), fold_at wTask_at z.ts (txtsX .empty [z.pn] ++ _), fold_at wPlace_at z.ps (txtsX .empty [z.pn] ++ _ ++ _), intsX_at (txtsX .empty [z.pn] ++ _ ++ _ ++ _)]
  simp only [ba_assoc]
/-! When a run may be. -/
/-- From i to j by After's. -/
inductive Beh (ts : List TkP) : Nat → Nat → Prop
  | one {i j : Nat} {t : TkP} : ts[i]? = some t → j ∈ t.after → Beh ts i j
  | more {i j k : Nat} {t : TkP} : ts[i]? = some t → j ∈ t.after → Beh ts j k → Beh ts i k
/-- A pipeline of which a run may be made. -/
structure MayP (n : ByteArray) (ts : List TkP) : Prop where
  right : RightPi ⟨n, ts⟩
  round : ∀ i, ¬ Beh ts i i
  gate : ∀ t ∈ ts, 0 < t.need → t.after.length = 1
/-- A try's numbers: from 0 to b, missed m times at most. -/
structure TrIn (b m : Int) (t : TrP) : Prop where
  st : 0 ≤ t.st ∧ t.st ≤ 4
  sn : 0 ≤ t.sn ∧ t.sn ≤ b
  ms : 0 ≤ t.ms ∧ t.ms ≤ m
  wk : 0 ≤ t.wk ∧ t.wk ≤ 1000000
  ls : 0 ≤ t.ls ∧ t.ls ≤ 1000000
  un : 0 ≤ t.un ∧ t.un ≤ b
/-- A run of such a pipeline. -/
structure RunIn (b m : Int) (z : RunP) : Prop where
  may : MayP z.pn z.ts
  len : z.ps.length = z.ts.length
  tr : ∀ p ∈ z.ps, TrIn b m p.tr
  out : ∀ p ∈ z.ps, p.out.size ≤ 32
  ris : ∀ p ∈ z.ps, RisL p.yes
abbrev RunOf (z : RunP) : Prop := RunIn 1000000 1000 z
/-- One that Read reads: its tries may be. -/
structure RunRight (z : RunP) : Prop where
  may : MayP z.pn z.ts
  len : z.ps.length = z.ts.length
  tr : ∀ p ∈ z.ps, rightT p.tr = true
  out : ∀ p ∈ z.ps, p.out.size ≤ 32
  ris : ∀ p ∈ z.ps, RisL p.yes
theorem RunRight.inn {z : RunP} (h : RunRight z) : RunOf z := by
  refine ⟨h.may, h.len, fun p hp => ?_, h.out, h.ris⟩
  have ht := h.tr p hp
  unfold rightT mostB at ht
  simp only [Bool.and_eq_true, decide_eq_true_eq] at ht
  obtain ⟨⟨⟨⟨⟨⟨h1, h2⟩, h3⟩, h4⟩, h5, h6⟩, _⟩, _⟩ := ht
  exact ⟨h5, h1, by omega, h2, h3, h4⟩
theorem TrIn.mono {b m b' m' : Int} {t : TrP} (h : TrIn b m t) (hb : b ≤ b') (hm : m ≤ m') : TrIn b' m' t := ⟨h.st, by have := h.sn; omega, by have := h.ms; omega, h.wk, h.ls, by have := h.un; omega⟩
theorem RunIn.mono {b m b' m' : Int} {z : RunP} (h : RunIn b m z) (hb : b ≤ b') (hm : m ≤ m') : RunIn b' m' z := ⟨h.may, h.len, fun p hp => (h.tr p hp).mono hb hm, h.out, h.ris⟩
end Go.Proofs.YtfjaibaidpbppaaGreatDoor
