/-
  Which pipelines may be, when two are the same; a text's pipeline may be. Plain facts: no program is named here. A text, byte by byte; what is wrong in it is wrong with lines behind it, too. Plain facts: no program is named here. A pipeline's text: it is read as it was. Plain facts: no program is named here.
-/
import Derived.Test.YtcfnmjhelhdobaaGreatDoorManR
namespace Go.Proofs.YtcfnmjhelhdobaaGreatDoor

structure TaskOk (n : Nat) (t : TkP) : Prop where
  name : nameOk t.name
  time : 1 ≤ t.time ∧ t.time ≤ 100
  need : 0 ≤ t.need ∧ t.need ≤ 4
  retry : 0 ≤ t.retry ∧ t.retry ≤ 5
  lab : 0 ≤ t.lv ∧ t.lv ≤ 7 ∧ 0 ≤ t.st ∧ t.st ≤ 65535
  plain : t.need = 0 → t.lv = 0 ∧ t.st = 0
  gate : 0 < t.need → t.retry = 0
  aft : (∀ j ∈ t.after, j < n) ∧ t.after.Nodup
structure RightPi (p : PiP) : Prop where
  name : nameOk p.name
  few : 1 ≤ p.tasks.length ∧ p.tasks.length ≤ 8
  task : ∀ t ∈ p.tasks, TaskOk p.tasks.length t
  names : (p.tasks.map (·.name)).Nodup
def sameT (t u : TkP) : Bool := decide (t.name = u.name) && decide (t.retry = u.retry) && decide (t.time = u.time) && decide (t.need = u.need) && decide (t.lv = u.lv ∧ t.st = u.st) && decide (t.after = u.after)
def sameL : List TkP → List TkP → Bool
  | [], [] => true
  | t :: ts, u :: us => sameT t u && sameL ts us
  | _, _ => false
def sameP (p q : PiP) : Bool := decide (p.name = q.name) && sameL p.tasks q.tasks
theorem sameT_iff {t u : TkP} : sameT t u = true ↔ t = u := by
  obtain ⟨n1, a1, r1, t1, e1, l1, s1⟩ := t
  obtain ⟨n2, a2, r2, t2, e2, l2, s2⟩ := u
  simp only [sameT, Bool.and_eq_true, decide_eq_true_eq, TkP.mk.injEq]
  constructor
  · rintro ⟨⟨⟨⟨⟨h1, h2⟩, h3⟩, h4⟩, h5, h6⟩, h7⟩
    exact ⟨h1, h7, h2, h3, h4, h5, h6⟩
  · rintro ⟨h1, h7, h2, h3, h4, h5, h6⟩
    exact ⟨⟨⟨⟨⟨h1, h2⟩, h3⟩, h4⟩, h5, h6⟩, h7⟩
theorem sameL_iff : ∀ {ts us : List TkP}, sameL ts us = true ↔ ts = us
  | [], [] => by simp [sameL]
  | t :: ts, u :: us => by simp [sameL, sameT_iff, sameL_iff (ts := ts) (us := us)]
  | [], u :: us => by simp [sameL]
  | t :: ts, [] => by simp [sameL]
theorem sameP_iff {p q : PiP} : sameP p q = true ↔ p = q := by
  cases p
  cases q
  simp [sameP, sameL_iff]
theorem sameL_len : ∀ {ts us : List TkP}, ts.length ≠ us.length → sameL ts us = false
  | [], [], h => absurd rfl h
  | t :: ts, u :: us, h => by
    rw [sameL, sameL_len (ts := ts) (us := us) (fun e => h (by simp [e])), Bool.and_false]
  | [], u :: us, _ => rfl
  | t :: ts, [], _ => rfl

/-- What holds of a line's task, as far as it is told. -/
structure LnInv (g : Bool) (x : LnP) : Prop where
  name : nameOk x.name
  time : 1 ≤ x.time ∧ x.time ≤ 100
  need : 0 ≤ x.need ∧ x.need ≤ 4
  retry : 0 ≤ x.retry ∧ x.retry ≤ 5
  lab : 0 ≤ x.lv ∧ x.lv ≤ 7 ∧ 0 ≤ x.st ∧ x.st ≤ 65535
  plain : g = false → x.need = 0 ∧ x.lv = 0 ∧ x.st = 0
  gate : g = true → x.retry = 0
  aft : (x.after.map (·.t)).Nodup
theorem dupGo_none (l : List Wd) : ∀ (f i : Nat), dupGo l f i = none → ∀ j, i ≤ j → j < i + f → memB (l.getD j default).t ((l.take j).map (·.t)) = false
  | 0, i, _, j, h1, h2 => absurd h2 (by omega)
  | f + 1, i, h, j, h1, h2 => by
    rw [dupGo] at h
    split at h
    · cases h
    · rename_i hm
      rcases Nat.eq_or_lt_of_le h1 with rfl | h3
      · simpa using hm
      · exact dupGo_none l f (i + 1) h j h3 (by omega)
theorem dup_none {l : List Wd} (h : dupP l = none) : (l.map (·.t)).Nodup := by
  have h2 := dupGo_none l l.length 0 h
  rw [List.nodup_iff_pairwise_ne, List.pairwise_iff_getElem]
  intro i j hi hj hij e
  rw [List.length_map] at hi hj
  have h3 := h2 j (Nat.zero_le _) (by omega)
  have h4 : l.getD j default = l[j] := by rw [List.getD_eq_getElem?_getD, List.getElem?_eq_getElem hj]; rfl
  have h5 : memB (l[j]).t ((l.take j).map (·.t)) = true := memB_iff.2 (List.mem_map.2 ⟨l[i], List.mem_take_iff_getElem.2 ⟨i, by omega, rfl⟩, by simpa using e⟩)
  rw [h4, h5] at h3
  cases h3
theorem lab_some {s : ByteArray} {a b : Int} (h : labP s = some (a, b)) : 0 ≤ a ∧ a ≤ 7 ∧ 0 ≤ b ∧ b ≤ 65535 := by
  unfold labP at h
  split at h
  · rename_i hg
    obtain ⟨_, _, h0, h7, hd⟩ := hg
    have hr := setV_range s 4 hd
    injection h with h
    injection h with h1 h2
    subst h1 h2
    omega
  · cases h
theorem num_some {s : ByteArray} {lo hi n : Int} (h : numP s lo hi = some n) : lo ≤ n ∧ n ≤ hi := by
  unfold numP at h
  split at h
  · rename_i hc
    injection h with h
    subst h
    exact ⟨hc.2.1, hc.2.2⟩
  · cases h
theorem value_inv {g : Bool} {x x' : LnP} {word : ByteArray} {w : Wd} (hm : memB word (wordsP g) = true) (hx : LnInv g x) (h : valueP x word w = .inr x') : LnInv g x' ∧ x'.name = x.name ∧ (word = sNeed → 1 ≤ x'.need) ∧ (1 ≤ x.need → 1 ≤ x'.need) := by
  obtain ⟨k1, k2, k3, k4, k5, k6, k7, k8⟩ := hx
  rcases val_word hm with rfl | rfl | rfl | rfl | rfl
  · rw [valueP, if_pos rfl] at h
    split at h
    · cases h
    · split at h
      · cases h
      · rename_i l _ hd
        injection h with h
        subst h
        exact ⟨⟨k1, k2, k3, k4, k5, k6, k7, dup_none hd⟩, rfl, fun e => absurd e (by decide), id⟩
  · rw [valueP, if_neg (by decide), if_neg (by decide), if_neg (by decide), if_pos rfl] at h
    split at h
    · cases h
    · rename_i n hn
      injection h with h
      subst h
      exact ⟨⟨k1, num_some hn, k3, k4, k5, k6, k7, k8⟩, rfl, fun e => absurd e (by decide), id⟩
  · rw [valueP, if_neg (by decide), if_pos rfl] at h
    split at h
    · cases h
    · rename_i a b hn
      injection h with h
      subst h
      refine ⟨⟨k1, k2, k3, k4, lab_some hn, fun hg => ?_, k7, k8⟩, rfl, fun e => absurd e (by decide), id⟩
      subst hg
      exact absurd hm (by decide)
  · rw [valueP, if_neg (by decide), if_neg (by decide), if_neg (by decide), if_neg (by decide), if_pos rfl] at h
    split at h
    · cases h
    · rename_i n hn
      injection h with h
      subst h
      have h4 := num_some hn
      refine ⟨⟨k1, k2, ⟨by show 0 ≤ n; omega, h4.2⟩, k4, k5, fun hg => ?_, k7, k8⟩, rfl, fun _ => h4.1, fun _ => h4.1⟩
      subst hg
      exact absurd hm (by decide)
  · rw [valueP, if_neg (by decide), if_neg (by decide), if_pos rfl] at h
    split at h
    · cases h
    · rename_i n hn
      injection h with h
      subst h
      refine ⟨⟨k1, k2, k3, num_some hn, k5, k6, fun hg => ?_, k8⟩, rfl, fun e => absurd e (by decide), id⟩
      subst hg
      exact absurd hm (by decide)
theorem pairs_inv {g : Bool} : ∀ (l : List Wd) (seen : List ByteArray) (x : LnP) (y : LnP × List ByteArray), LnInv g x → (sNeed ∈ seen → 1 ≤ x.need) → pairsP g seen x l = .inr y → LnInv g y.1 ∧ y.1.name = x.name ∧ (sNeed ∈ y.2 → 1 ≤ y.1.need)
  | [], seen, x, y, hx, hs, h => by
    rw [pairsP] at h
    injection h with h
    subst h
    exact ⟨hx, rfl, hs⟩
  | [a], seen, x, y, hx, hs, h => by
    rw [pairsP] at h
    split at h
    · cases h
    · split at h
      · cases h
      · cases h
  | a :: b :: r, seen, x, y, hx, hs, h => by
    rw [pairsP] at h
    split at h
    · cases h
    · rename_i hm
      split at h
      · cases h
      · split at h
        · cases h
        · rename_i x' hx'
          obtain ⟨h1, h2, h3, h4⟩ := value_inv (by simpa using hm) hx hx'
          obtain ⟨h5, h6, h7⟩ := pairs_inv r _ x' y h1 (fun hn => by
            rcases List.mem_append.1 hn with hn | hn
            · exact h4 (hs hn)
            · exact h3 (List.mem_singleton.1 hn).symm) h
          exact ⟨h5, h6.trans h2, h7⟩
theorem name_ok {s : ByteArray} (h : ¬ nameP s = false) : nameOk s := by
  have h2 : nameP s = true := by simpa using h
  exact of_decide_eq_true h2
theorem ln0_inv {g : Bool} {n : ByteArray} (h : nameOk n) : LnInv g (ln0 n) := by
  refine ⟨h, ?_, ?_, ?_, ?_, fun _ => ⟨rfl, rfl, rfl⟩, fun _ => rfl, List.nodup_nil⟩ <;> simp [ln0]
/-- A line's task. -/
structure LnFin (x : LnP) : Prop where
  name : nameOk x.name
  time : 1 ≤ x.time ∧ x.time ≤ 100
  need : 0 ≤ x.need ∧ x.need ≤ 4
  retry : 0 ≤ x.retry ∧ x.retry ≤ 5
  lab : 0 ≤ x.lv ∧ x.lv ≤ 7 ∧ 0 ≤ x.st ∧ x.st ≤ 65535
  plain : x.need = 0 → x.lv = 0 ∧ x.st = 0
  gate : 0 < x.need → x.retry = 0
  aft : (x.after.map (·.t)).Nodup
theorem line_inv {l : List Wd} {names : List ByteArray} {x : LnP} (h : lineP l names = .inr x) : LnFin x ∧ x.name ∉ names ∧ names.length ≠ 8 := by
  unfold lineP at h
  dsimp only at h
  split at h
  · cases h
  · rename_i h8
    split at h
    · cases h
    · split at h
      · cases h
      · split at h
        · cases h
        · rename_i hn
          split at h
          · cases h
          · rename_i hm
            split at h
            · cases h
            · rename_i y seen he
              split at h
              · cases h
              · rename_i hg
                injection h with h
                subst h
                obtain ⟨h1, h2, h3⟩ := pairs_inv (l.drop 2) [] (ln0 (l.getD 1 default).t) (y, seen) (ln0_inv (name_ok hn)) (fun hs => absurd hs (by simp)) he
                dsimp only at h1 h2 h3
                have hnm : y.name = (l.getD 1 default).t := h2
                refine ⟨⟨h1.name, h1.time, h1.need, h1.retry, h1.lab, fun e => ?_, fun e => ?_, h1.aft⟩, fun hin => hm (memB_iff.2 (hnm ▸ hin)), h8⟩
                · by_cases hgt : (l.getD 0 default).t = sGate
                  · have hs : memB sNeed seen = true := by
                      cases hb : memB sNeed seen with
                      | true => rfl
                      | false => exact absurd ⟨hgt, .inr hb⟩ hg
                    have := h3 (memB_iff.1 hs)
                    omega
                  · exact (h1.plain (decide_eq_false hgt)).2
                · by_cases hgt : (l.getD 0 default).t = sGate
                  · exact h1.gate (decide_eq_true hgt)
                  · have := (h1.plain (decide_eq_false hgt)).1
                    omega
theorem lines_inv : ∀ (L : List (List Wd)) (acc xs : List LnP), (∀ x ∈ acc, LnFin x) → (acc.map (·.name)).Nodup → acc.length ≤ 8 → linesP acc L = .inr xs → (∀ x ∈ xs, LnFin x) ∧ (xs.map (·.name)).Nodup ∧ xs.length ≤ 8
  | [], acc, xs, h1, h2, h3, h => by
    rw [linesP] at h
    injection h with h
    subst h
    exact ⟨h1, h2, h3⟩
  | l :: L, acc, xs, h1, h2, h3, h => by
    rw [linesP] at h
    split at h
    · cases h
    · rename_i x hx
      obtain ⟨k1, k2, k3⟩ := line_inv hx
      refine lines_inv L (acc ++ [x]) xs (fun y hy => ?_) ?_ ?_ h
      · rcases List.mem_append.1 hy with hy | hy
        · exact h1 y hy
        · obtain rfl := List.mem_singleton.1 hy
          exact k1
      · rw [List.map_append, List.nodup_append]
        refine ⟨h2, List.nodup_cons.2 ⟨by simp, List.nodup_nil⟩, fun a ha b hb e => ?_⟩
        obtain rfl := List.mem_singleton.1 hb
        exact k2 (by have e2 : a = x.name := e; rw [← e2]; exact ha)
      · rw [List.length_map] at k3
        rw [List.length_append]
        show acc.length + 1 ≤ 8
        omega
theorem find_some {l : List ByteArray} {x : ByteArray} {n : Nat} (h : findP l x = some n) : l[n]? = some x := by
  unfold findP at h
  rw [List.findIdx?_eq_some_iff_getElem] at h
  obtain ⟨hn, h1, _⟩ := h
  rw [List.getElem?_eq_getElem hn, of_decide_eq_true h1]
/-- The places of a task's names. -/
theorem places_inv (names : List ByteArray) : ∀ (ws : List Wd) (acc out : List Nat) (ts : List ByteArray), acc.map (fun n => names[n]?) = ts.map some → placesP names acc ws = .inr out → out.map (fun n => names[n]?) = (ts ++ ws.map (·.t)).map some
  | [], acc, out, ts, h1, h => by
    rw [placesP] at h
    injection h with h
    subst h
    simpa using h1
  | w :: ws, acc, out, ts, h1, h => by
    rw [placesP] at h
    split at h
    · cases h
    · rename_i n hn
      have h2 := places_inv names ws (acc ++ [n]) out (ts ++ [w.t]) (by rw [List.map_append, List.map_append, h1]; simp [find_some hn]) h
      rw [h2]
      simp
theorem places_ok {names : List ByteArray} {ws : List Wd} {out : List Nat} (hd : (ws.map (·.t)).Nodup) (h : placesP names [] ws = .inr out) : (∀ j ∈ out, j < names.length) ∧ out.Nodup := by
  have h2 := places_inv names ws [] out [] rfl h
  rw [List.nil_append] at h2
  constructor
  · intro j hj
    have h3 : names[j]? ∈ out.map (fun n => names[n]?) := List.mem_map.2 ⟨j, hj, rfl⟩
    rw [h2] at h3
    obtain ⟨y, _, hy⟩ := List.mem_map.1 h3
    exact (List.getElem?_eq_some_iff.1 hy.symm).1
  · have h3 : (out.map (fun n => names[n]?)).Nodup := by
      rw [h2]
      exact hd.map some (fun a b hab e => hab (by injection e))
    exact List.Pairwise.of_map (fun n => names[n]?) (fun a b hab e => hab (by rw [e])) h3
theorem tasks_inv {names : List ByteArray} {n : Nat} (hn : names.length = n) : ∀ (xs : List LnP) (acc ts : List TkP), (∀ x ∈ xs, LnFin x) → (∀ t ∈ acc, TaskOk n t) → tasksP names acc xs = .inr ts → (∀ t ∈ ts, TaskOk n t) ∧ ts.map (·.name) = acc.map (·.name) ++ xs.map (·.name)
  | [], acc, ts, h1, h2, h => by
    rw [tasksP] at h
    injection h with h
    subst h
    exact ⟨h2, by simp⟩
  | x :: xs, acc, ts, h1, h2, h => by
    rw [tasksP] at h
    split at h
    · cases h
    · rename_i a ha
      have hx := h1 x (by simp)
      obtain ⟨k1, k2⟩ := places_ok hx.aft ha
      obtain ⟨h3, h4⟩ := tasks_inv hn xs _ ts (fun y hy => h1 y (by simp [hy])) (fun t ht => by
        rcases List.mem_append.1 ht with ht | ht
        · exact h2 t ht
        · obtain rfl := List.mem_singleton.1 ht
          exact ⟨hx.name, hx.time, hx.need, hx.retry, hx.lab, hx.plain, hx.gate, fun j hj => hn ▸ k1 j hj, k2⟩) h
      exact ⟨h3, by rw [h4]; simp⟩
/-- A text's pipeline may be. -/
theorem parse_right {s : ByteArray} {p : PiP} (h : parseP s = .inr p) : RightPi p := by
  unfold parseP at h
  split at h
  · cases h
  · cases h
  · split at h
    · cases h
    · split at h
      · cases h
      · split at h
        · cases h
        · rename_i hn
          split at h
          · cases h
          · cases h
          · rename_i L xs hne hxs
            split at h
            · cases h
            · rename_i ts hts
              injection h with h
              subst h
              obtain ⟨h1, h2, h3⟩ := lines_inv _ [] _ (fun x hx => absurd hx (by simp)) List.nodup_nil (Nat.zero_le _) hxs
              obtain ⟨h4, h5⟩ := tasks_inv (List.length_map _) xs [] ts h1 (fun t ht => absurd ht (by simp)) hts
              have h6 : ts.length = xs.length := by
                have := congrArg List.length h5
                simpa using this
              refine ⟨name_ok hn, ⟨?_, by show ts.length ≤ 8; omega⟩, fun t ht => ?_, ?_⟩
              · show 1 ≤ ts.length
                cases xs with
                | nil => exact absurd rfl hne
                | cons x xs => rw [h6]; simp
              · show TaskOk ts.length t
                rw [h6]
                exact h4 t ht
              · show (ts.map (·.name)).Nodup
                rw [h5]
                simpa using h2
end Go.Proofs.YtcfnmjhelhdobaaGreatDoor

namespace Go.Proofs.YtcfnmjhelhdobaaGreatDoor

/-- One byte more: what is held, or nothing, if it may not be. -/
def stepW (b : UInt8) (k : Nat) (st : LxS) : Option LxS :=
  if isW b.toNat then some (st.push (ofL [b]) k) else if b.toNat = 10 then some st.feed else if b.toNat = 32 then some st.space else none
/-- Some bytes more: what is held, or the place of the first one that may not be. -/
def goW : List UInt8 → Nat → LxS → Nat ⊕ LxS
  | [], _, st => .inr st
  | b :: l, k, st => match stepW b k st with
    | none => .inl k
    | some st' => goW l (k + 1) st'
theorem goW_append : ∀ (a b : List UInt8) (k : Nat) (st : LxS), goW (a ++ b) k st = match goW a k st with
    | .inl p => .inl p
    | .inr st' => goW b (k + a.length) st'
  | [], b, k, st => by simp [goW]
  | c :: a, b, k, st => by
    rw [List.cons_append, goW, goW]
    cases stepW c k st with
    | none => rfl
    | some st' =>
      dsimp only
      rw [goW_append a b (k + 1) st', List.length_cons, show k + 1 + a.length = k + (a.length + 1) by omega]
theorem goW_more {a b : List UInt8} {k : Nat} {st st' : LxS} (h : goW a k st = .inr st') : goW (a ++ b) k st = goW b (k + a.length) st' := by rw [goW_append, h]
theorem goW_bad {a b : List UInt8} {k p : Nat} {st : LxS} (h : goW a k st = .inl p) : goW (a ++ b) k st = .inl p := by rw [goW_append, h]
def endW : Nat ⊕ LxS → LxR
  | .inl p => .bad 3 p
  | .inr st => .good st.feed.out
theorem lexGo_goW (s : ByteArray) : ∀ (f k : Nat) (st : LxS), k + f = s.size → lexGo s f k st = endW (goW ((bl s).drop k) k st)
  | 0, k, st, h => by
    have : (bl s).drop k = [] := List.drop_eq_nil_of_le (by rw [bl_len]; omega)
    rw [lexGo_end, this]
    rfl
  | f + 1, k, st, h => by
    have hk : k < (bl s).length := by rw [bl_len]; omega
    have hb : byL s k = ((bl s)[k].toNat : Int) := by
      unfold byL
      rw [List.getD_eq_getElem?_getD, List.getElem?_eq_getElem hk]
      rfl
    have he : s.extract k (k + 1) = ofL [(bl s)[k]] := by
      apply bl_inj
      rw [bl_extract, bl_ofL, List.drop_take, show k + 1 - k = 1 by omega, List.drop_eq_getElem_cons hk]
      rfl
    rw [List.drop_eq_getElem_cons hk, goW, stepW]
    generalize (bl s)[k] = b at hb he
    by_cases h1 : isW b.toNat = true
    · have h2 : 32 < b.toNat ∧ b.toNat < 127 := by simpa [isW] using h1
      rw [if_pos h1, lexGo_word (by omega) (by omega), he]
      exact lexGo_goW s f (k + 1) _ (by omega)
    · have h2 : ¬ (32 < b.toNat ∧ b.toNat < 127) := fun h => h1 (by simpa [isW] using h)
      rw [if_neg h1]
      by_cases h3 : b.toNat = 10
      · rw [if_pos h3, lexGo_feed (by omega)]
        exact lexGo_goW s f (k + 1) _ (by omega)
      · rw [if_neg h3]
        by_cases h4 : b.toNat = 32
        · rw [if_pos h4, lexGo_space (by omega)]
          exact lexGo_goW s f (k + 1) _ (by omega)
        · rw [if_neg h4, lexGo_bad (by omega) (by omega) (by omega)]
          rfl
theorem lexP_goW {s : ByteArray} (h : s.size ≤ 600) : lexP s = endW (goW (bl s) 0 lx0) := by
  unfold lexP
  rw [if_neg (by omega), lexGo_goW s s.size 0 lx0 (by omega)]
  rfl
/-- Bytes that may be only add lines. -/
theorem goW_fine : ∀ (l : List UInt8) (k : Nat) (st : LxS), (∀ b ∈ l, b.toNat = 10 ∨ (32 ≤ b.toNat ∧ b.toNat ≤ 126)) → ∃ st' L, goW l k st = .inr st' ∧ st'.out = st.out ++ L
  | [], k, st, _ => ⟨st, [], rfl, by simp⟩
  | b :: l, k, st, h => by
    have hb := h b (by simp)
    have hl := fun c hc => h c (List.mem_cons_of_mem _ hc)
    obtain ⟨st1, L1, h1, h2⟩ : ∃ st1 L1, stepW b k st = some st1 ∧ st1.out = st.out ++ L1 := by
      unfold stepW
      split
      · exact ⟨_, [], rfl, by simp [LxS.push]⟩
      · rename_i hw
        split
        · refine ⟨_, if st.done = [] then [] else [st.done], rfl, ?_⟩
          show (if st.done = [] then st.out else st.out ++ [st.done]) = _
          split <;> simp
        · rename_i h10
          split
          · exact ⟨_, [], rfl, by simp [LxS.space]⟩
          · rename_i h32
            exfalso
            apply hw
            simp [isW]
            omega
    obtain ⟨st2, L2, h3, h4⟩ := goW_fine l (k + 1) st1 hl
    refine ⟨st2, L1 ++ L2, ?_, by rw [h4, h2, List.append_assoc]⟩
    rw [goW, h1]
    exact h3
theorem feed_more_out (st : LxS) : ∃ L, st.feed.out = st.out ++ L := by
  refine ⟨if st.done = [] then [] else [st.done], ?_⟩
  show (if st.done = [] then st.out else st.out ++ [st.done]) = _
  split <;> simp
/-- A text with lines behind it: wrong where it was, or its lines are ahead of others. -/
theorem lex_more {s m : ByteArray} (hz : s.size + m.size ≤ 599) (hm : ∀ b ∈ bl m, b.toNat = 10 ∨ (32 ≤ b.toNat ∧ b.toNat ≤ 126)) :
    (∀ e p, lexP s = .bad e p → lexP (s ++ ofL [10] ++ m) = .bad e p) ∧ (∀ L, lexP s = .good L → ∃ L', lexP (s ++ ofL [10] ++ m) = .good (L ++ L')) := by
  have hs2 : (s ++ ofL [10] ++ m).size ≤ 600 := by
    rw [ByteArray.size_append, ByteArray.size_append, ofL_size]
    simp
    omega
  rw [lexP_goW (s := s) (by omega), lexP_goW hs2, bl_append, bl_append, bl_ofL, List.append_assoc]
  cases hg : goW (bl s) 0 lx0 with
  | inl q =>
    rw [goW_bad hg]
    exact ⟨fun e p h => h, fun L h => by cases h⟩
  | inr st =>
    rw [goW_more hg]
    refine ⟨fun e p h => (by cases h), fun L h => ?_⟩
    injection h with h
    subst h
    obtain ⟨st2, L2, h3, h4⟩ := goW_fine (bl m) (0 + (bl s).length + 1) st.feed hm
    obtain ⟨L3, h5⟩ := feed_more_out st2
    refine ⟨L2 ++ L3, ?_⟩
    have h6 : goW ([10] ++ bl m) (0 + (bl s).length) st = .inr st2 := h3
    rw [h6]
    show LxR.good st2.feed.out = _
    rw [h5, h4, List.append_assoc]
theorem lines_append : ∀ (L M : List (List Wd)) (acc : List LnP) (f : FaP), linesP acc L = .inl f → linesP acc (L ++ M) = .inl f
  | [], M, acc, f, h => by rw [linesP] at h; cases h
  | l :: L, M, acc, f, h => by
    rw [List.cons_append]
    cases hl : lineP l (acc.map (·.name)) with
    | inl g =>
      rw [lines_bad hl] at h ⊢
      exact h
    | inr x =>
      rw [lines_good hl] at h ⊢
      exact lines_append L M _ f h
theorem places_err (names : List ByteArray) : ∀ (ws : List Wd) (acc : List Nat) (f : FaP), placesP names acc ws = .inl f → f.e = 6
  | [], acc, f, h => by rw [placesP] at h; cases h
  | w :: ws, acc, f, h => by
    rw [placesP] at h
    split at h
    · injection h with h
      rw [← h]
    · exact places_err names ws _ f h
theorem tasks_err (names : List ByteArray) : ∀ (xs : List LnP) (acc : List TkP) (f : FaP), tasksP names acc xs = .inl f → f.e = 6
  | [], acc, f, h => by rw [tasksP] at h; cases h
  | x :: xs, acc, f, h => by
    rw [tasksP] at h
    split at h
    · rename_i g hg
      injection h with h
      subst h
      exact places_err _ _ _ _ hg
    · exact tasks_err names xs _ f h
/-- What is wrong in a text's line is wrong there with any lines behind it. -/
theorem parse_first {s m : ByteArray} (hz : s.size + m.size ≤ 599) (hm : ∀ b ∈ bl m, b.toNat = 10 ∨ (32 ≤ b.toNat ∧ b.toNat ≤ 126)) {f : FaP} (h : parseP s = .inl f) (h6 : f.e ≠ 6) : parseP (s ++ ofL [10] ++ m) = .inl f := by
  obtain ⟨k1, k2⟩ := lex_more hz hm
  unfold parseP at h
  split at h
  · rename_i e p hl
    rw [parse_lex (k1 e p hl)]
    exact h
  · injection h with h
    exact absurd (by rw [← h]) h6
  · rename_i l0 L hl
    obtain ⟨L', hL⟩ := k2 _ hl
    unfold parseP
    rw [hL, List.cons_append]
    dsimp only
    split at h
    · rename_i hc
      rw [if_pos hc]
      exact h
    · rename_i hc
      rw [if_neg hc]
      split at h
      · rename_i hc
        rw [if_pos hc]
        exact h
      · rename_i hc
        rw [if_neg hc]
        split at h
        · rename_i hc
          rw [if_pos hc]
          exact h
        · rename_i hc
          rw [if_neg hc]
          split at h
          · rename_i g hg
            rw [lines_append L L' [] g hg]
            exact h
          · injection h with h
            exact absurd (by rw [← h]) h6
          · split at h
            · rename_i g hg
              injection h with h
              subst h
              exact absurd (tasks_err _ _ _ _ hg) h6
            · cases h
theorem lines_err : ∀ (L : List (List Wd)) (acc : List LnP) (f : FaP), linesP acc L = .inl f → (f.e : Int) ≠ 0
  | [], acc, f, h => by rw [linesP] at h; cases h
  | l :: L, acc, f, h => by
    rw [linesP] at h
    split at h
    · rename_i g hg
      injection h with h
      subst h
      exact line_err hg
    · exact lines_err L _ f h
/-- What is wrong has a number. -/
theorem parse_err {s : ByteArray} {f : FaP} (h : parseP s = .inl f) : (f.e : Int) ≠ 0 := by
  unfold parseP at h
  split at h
  · rename_i e p hl
    injection h with h
    rw [← h]
    exact lexP_bad hl
  · injection h with h
    rw [← h]
    simp
  · split at h
    · injection h with h
      rw [← h]
      simp
    · split at h
      · injection h with h
        rw [← h]
        simp
      · split at h
        · injection h with h
          rw [← h]
          simp
        · split at h
          · rename_i g hg
            injection h with h
            subst h
            exact lines_err _ _ _ hg
          · injection h with h
            rw [← h]
            simp
          · split at h
            · rename_i g hg
              injection h with h
              subst h
              have := tasks_err _ _ _ _ hg
              omega
            · cases h
/-- Unlike numbers below n: at most n of them. -/
theorem few_below : ∀ (n : Nat) (l : List Nat), (∀ j ∈ l, j < n) → l.Nodup → l.length ≤ n
  | 0, l, h, _ => by
    cases l with
    | nil => exact Nat.le_refl _
    | cons x l => exact absurd (h x (by simp)) (Nat.not_lt_zero _)
  | n + 1, l, h, hd => by
    have h1 := few_below n (l.erase n) (fun j hj => by
      obtain ⟨h2, h3⟩ := (hd.mem_erase_iff).1 hj
      have := h j h3
      omega) (hd.erase n)
    have h2 := List.length_erase (a := n) (l := l)
    split at h2 <;> omega
end Go.Proofs.YtcfnmjhelhdobaaGreatDoor

namespace Go.Proofs.YtcfnmjhelhdobaaGreatDoor

/-- Words with a byte between them; a line; digits of a number up to 999. -/
def joinC (c : UInt8) : List ByteArray → List UInt8
  | [] => []
  | [w] => bl w
  | w :: v :: r => bl w ++ c :: joinC c (v :: r)
def lineB (ws : List ByteArray) : List UInt8 := joinC 32 ws ++ [10]
def digL (n : Nat) : List UInt8 := if n < 10 then [(48 + n).toUInt8] else if n < 100 then [(48 + n / 10).toUInt8, (48 + n % 10).toUInt8] else [(48 + n / 100).toUInt8, (48 + n / 10 % 10).toUInt8, (48 + n % 10).toUInt8]
def digB (n : Int) : ByteArray := ofL (digL n.toNat)
/-- A task's line, word by word; a pipeline's lines; its text. -/
def aftB (names : List ByteArray) (a : List Nat) : ByteArray := ofL (joinC 44 (a.map fun j => names.getD j .empty))
def aftW (names : List ByteArray) (a : List Nat) : List ByteArray := if a = [] then [] else [sAfter, aftB names a]
def retW (n : Int) : List ByteArray := if 0 < n then [sRetry, digB n] else []
def gateW (t : TkP) : List ByteArray := if 0 < t.need then [sTo, strOfNums (textN t.lv t.st), sNeed, digB t.need] else []
def taskW (names : List ByteArray) (t : TkP) : List ByteArray := (if 0 < t.need then sGate else sTask) :: t.name :: (aftW names t.after ++ (retW t.retry ++ (gateW t ++ [sTime, digB t.time])))
def textW (p : PiP) : List (List ByteArray) := [sPipe, p.name] :: p.tasks.map (taskW (p.tasks.map (·.name)))
def textP (p : PiP) : ByteArray := ofL ((textW p).flatMap lineB)

/-! ### The lines of such a text -/
def WordOk (w : ByteArray) : Prop := w ≠ .empty ∧ ∀ b ∈ bl w, isW b.toNat = true
theorem goW_grow : ∀ (v : List UInt8) (o : List (List Wd)) (l : List Wd) (u : ByteArray) (a k : Nat), u ≠ .empty → (∀ b ∈ v, isW b.toNat = true) → goW v k ⟨o, l, u, a⟩ = .inr ⟨o, l, u ++ ofL v, a⟩
  | [], o, l, u, a, k, _, _ => by
    have : u ++ ofL [] = u := by apply bl_inj; rw [bl_append, bl_ofL, List.append_nil]
    rw [this]
    rfl
  | b :: v, o, l, u, a, k, hu, hv => by
    have hu2 : u ++ ofL [b] ≠ .empty := fun e => by
      have := congrArg ByteArray.size e
      rw [ByteArray.size_append, ofL_size] at this
      simp at this
    rw [goW, stepW, if_pos (hv b (by simp)), push_more hu]
    dsimp only
    rw [goW_grow v o l _ a (k + 1) hu2 (fun c hc => hv c (by simp [hc]))]
    congr 2
    apply bl_inj
    rw [bl_append, bl_append, bl_append, bl_ofL, bl_ofL, bl_ofL, List.append_assoc]
    rfl
theorem goW_word {w : ByteArray} (hw : WordOk w) (o : List (List Wd)) (l : List Wd) (a k : Nat) : goW (bl w) k ⟨o, l, .empty, a⟩ = .inr ⟨o, l, w, k⟩ := by
  obtain ⟨h1, h2⟩ := hw
  cases hb : bl w with
  | nil => exact absurd (bl_inj hb) h1
  | cons b v =>
    rw [hb] at h2
    have hne : ofL [b] ≠ .empty := fun e => by
      have := congrArg ByteArray.size e
      rw [ofL_size] at this
      simp at this
    rw [goW, stepW, if_pos (h2 b (by simp)), push_empty]
    dsimp only
    rw [goW_grow v o l _ k (k + 1) hne (fun c hc => h2 c (by simp [hc]))]
    congr 2
    apply bl_inj
    rw [bl_append, bl_ofL, bl_ofL, hb]
    rfl
theorem goW_join : ∀ (ws : List ByteArray) (o : List (List Wd)) (l0 : List Wd) (a k : Nat), ws ≠ [] → (∀ w ∈ ws, WordOk w) → ∃ l st, goW (joinC 32 ws) k ⟨o, l0, .empty, a⟩ = .inr st ∧ st.feed = ⟨o ++ [l0 ++ l], [], .empty, 0⟩ ∧ l.map (·.t) = ws
  | [], o, l0, a, k, h, _ => absurd rfl h
  | [w], o, l0, a, k, _, hw => by
    have h1 := hw w (by simp)
    exact ⟨[⟨w, k⟩], _, goW_word h1 o l0 a k, feed_more h1.1, rfl⟩
  | w :: v :: r, o, l0, a, k, _, hw => by
    have h1 := hw w (by simp)
    obtain ⟨l, st, h2, h3, h4⟩ := goW_join (v :: r) o (l0 ++ [⟨w, k⟩]) 0 (k + (bl w).length + 1) (by simp) (fun x hx => hw x (by simp at hx ⊢; simp [hx]))
    refine ⟨⟨w, k⟩ :: l, st, ?_, by rw [h3]; simp, by simp [h4]⟩
    rw [joinC, goW_more (goW_word h1 o l0 a k), goW]
    have h5 : stepW 32 (k + (bl w).length) ⟨o, l0, w, k⟩ = some ⟨o, l0 ++ [⟨w, k⟩], .empty, 0⟩ := by
      rw [stepW, if_neg (by decide), if_neg (by decide), if_pos (by decide), space_more h1.1]
    rw [h5]
    exact h2
theorem goW_line {ws : List ByteArray} (hne : ws ≠ []) (hw : ∀ w ∈ ws, WordOk w) (o : List (List Wd)) (a k : Nat) : ∃ l, goW (lineB ws) k ⟨o, [], .empty, a⟩ = .inr ⟨o ++ [l], [], .empty, 0⟩ ∧ l.map (·.t) = ws := by
  obtain ⟨l, st, h1, h2, h3⟩ := goW_join ws o [] a k hne hw
  refine ⟨l, ?_, h3⟩
  rw [lineB, goW_more h1, goW, stepW, if_neg (by decide), if_pos (by decide)]
  show goW [] _ st.feed = _
  rw [h2]
  rfl
theorem goW_lines : ∀ (lines : List (List ByteArray)) (o : List (List Wd)) (a k : Nat), (∀ l ∈ lines, l ≠ [] ∧ ∀ w ∈ l, WordOk w) → ∃ L a', goW (lines.flatMap lineB) k ⟨o, [], .empty, a⟩ = .inr ⟨o ++ L, [], .empty, a'⟩ ∧ L.map (·.map (·.t)) = lines
  | [], o, a, k, _ => ⟨[], a, by simp [goW], rfl⟩
  | ws :: lines, o, a, k, h => by
    obtain ⟨h1, h2⟩ := h ws (by simp)
    obtain ⟨l, h3, h4⟩ := goW_line h1 h2 o a k
    obtain ⟨L, a', h5, h6⟩ := goW_lines lines (o ++ [l]) 0 (k + (lineB ws).length) (fun x hx => h x (by simp [hx]))
    refine ⟨l :: L, a', ?_, by rw [List.map_cons, h4, h6]⟩
    rw [List.flatMap_cons, goW_more h3, h5, List.append_assoc]
    rfl
theorem lex_lines {lines : List (List ByteArray)} (h : ∀ l ∈ lines, l ≠ [] ∧ ∀ w ∈ l, WordOk w) (hz : (ofL (lines.flatMap lineB)).size ≤ 600) : ∃ L, lexP (ofL (lines.flatMap lineB)) = .good L ∧ L.map (·.map (·.t)) = lines := by
  obtain ⟨L, a', h1, h2⟩ := goW_lines lines [] 0 0 h
  refine ⟨L, ?_, h2⟩
  have h3 : goW (bl (ofL (lines.flatMap lineB))) 0 lx0 = .inr ⟨[] ++ L, [], .empty, a'⟩ := h1
  rw [lexP_goW hz, h3, endW, feed_none, List.nil_append]

/-! ### Values there and back -/
theorem nameOk_bytes {w : ByteArray} (h : nameOk w) : ∀ b ∈ bl w, 97 ≤ b.toNat ∧ b.toNat ≤ 122 := by
  intro b hb
  obtain ⟨j, hj, rfl⟩ := List.mem_iff_getElem.1 hb
  have h2 := h.2.2 j (by rw [← bl_len]; exact hj)
  unfold byL at h2
  rw [List.getD_eq_getElem?_getD, List.getElem?_eq_getElem hj] at h2
  simp at h2
  omega
theorem word_name {w : ByteArray} (h : nameOk w) : WordOk w := by
  refine ⟨fun e => ?_, fun b hb => ?_⟩
  · have := h.1
    rw [e] at this
    simp at this
  · have := nameOk_bytes h b hb
    simp [isW]
    omega
theorem digL_ok : ∀ n : Fin 101, numOk (ofL (digL n)) ∧ valN (ofL (digL n)) (ofL (digL n)).size = ((n : Nat) : Int) ∧ (∀ b ∈ digL n, isW b.toNat = true) := by decide
theorem num_dig {n lo hi : Int} (h0 : 0 ≤ n) (h1 : n ≤ 100) (hl : lo ≤ n) (hh : n ≤ hi) : numP (digB n) lo hi = some n := by
  obtain ⟨k1, k2, _⟩ := digL_ok ⟨n.toNat, by omega⟩
  have k3 : ((n.toNat : Nat) : Int) = n := by omega
  dsimp only at k1 k2
  rw [k3] at k2
  unfold numP digB
  rw [k2, if_pos ⟨k1, hl, hh⟩]
theorem word_dig {n : Int} (h0 : 0 ≤ n) (h1 : n ≤ 100) : WordOk (digB n) := by
  obtain ⟨k1, _, k3⟩ := digL_ok ⟨n.toNat, by omega⟩
  refine ⟨fun e => ?_, k3⟩
  have h2 : 1 ≤ (digB n).size := k1.1
  rw [e] at h2
  simp at h2
theorem lab_text {l t : Int} (h0 : 0 ≤ l) (h7 : l ≤ 7) (ht : SetN t) : labP (strOfNums (textN l t)) = some (l, t) := by
  obtain ⟨h1, h2, h3⟩ := text_good _ h0 h7 ht rfl
  unfold labP
  rw [if_pos h1, h2, h3]
theorem hexC_word : ∀ d : Fin 16, isW (hexC ((d : Nat) : Int)).toNat.toUInt8.toNat = true := by decide
theorem word_lab {l t : Int} (h0 : 0 ≤ l) (h7 : l ≤ 7) : WordOk (strOfNums (textN l t)) := by
  have hx : ∀ d : Int, 0 ≤ d → d < 16 → isW (UInt8.ofNat (hexC d).toNat).toNat = true := fun d d0 d1 => by
    have := hexC_word ⟨d.toNat, by omega⟩
    dsimp only at this
    rw [show ((d.toNat : Nat) : Int) = d by omega] at this
    exact this
  refine ⟨fun e => ?_, fun b hb => ?_⟩
  · have := congrArg ByteArray.size e
    have h6 : (strOfNums (textN l t)).size = 6 := rfl
    rw [h6] at this
    simp at this
  · have hb2 : b ∈ (textN l t).map (fun n => UInt8.ofNat n.toNat) := by simpa [strOfNums, bl] using hb
    obtain ⟨n, hn, rfl⟩ := List.mem_map.1 hb2
    simp only [textN, List.mem_cons, List.not_mem_nil, or_false] at hn
    rcases hn with rfl | rfl | rfl | rfl | rfl | rfl
    · exact hx _ (by omega) (by omega)
    · decide
    · exact hx _ (by omega) (by omega)
    · exact hx _ (by omega) (by omega)
    · exact hx _ (by omega) (by omega)
    · exact hx _ (by omega) (by omega)
theorem joinL_bytes {c : UInt8} {P : UInt8 → Prop} (hc : P c) : ∀ (ws : List ByteArray), (∀ w ∈ ws, ∀ b ∈ bl w, P b) → ∀ b ∈ joinC c ws, P b
  | [], _ => fun b hb => absurd hb (by simp [joinC])
  | [w], h => fun b hb => h w (by simp) b hb
  | w :: v :: r, h => fun b hb => by
    rw [joinC] at hb
    rcases List.mem_append.1 hb with hb | hb
    · exact h w (by simp) b hb
    · rcases List.mem_cons.1 hb with rfl | hb
      · exact hc
      · exact joinL_bytes hc (v :: r) (fun x hx => h x (by simp at hx ⊢; simp [hx])) b hb
theorem joinL_some {c : UInt8} {w : ByteArray} {r : List ByteArray} (h : w ≠ .empty) : joinC c (w :: r) ≠ [] := by
  cases r with
  | nil => exact fun e => h (bl_inj e)
  | cons v r =>
    intro e
    rw [joinC] at e
    simp at e
theorem word_names {ns : List ByteArray} (hne : ns ≠ []) (h : ∀ n ∈ ns, nameOk n) : WordOk (ofL (joinC 44 ns)) := by
  cases ns with
  | nil => exact absurd rfl hne
  | cons w r =>
    refine ⟨fun e => joinL_some (word_name (h w (by simp))).1 (by have := congrArg bl e; exact this), ?_⟩
    exact joinL_bytes (c := 44) (P := fun b => isW b.toNat = true) (by decide) _ (fun x hx b hb => (word_name (h x hx)).2 b hb)
theorem name_yes {n : ByteArray} (h : nameOk n) : nameP n = true := decide_eq_true h
theorem names_scan (s : ByteArray) (p fr f : Nat) (out : List Wd) : ∀ (j i : Nat), (∀ u, i ≤ u → u < i + j → byL s u ≠ 44) → namesGo s p (f + j) fr i out = namesGo s p f fr (i + j) out
  | 0, i, _ => rfl
  | j + 1, i, h => by
    rw [show f + (j + 1) = (f + j) + 1 by omega, namesGo_on (h i (Nat.le_refl _) (by omega)), names_scan s p fr f out j (i + 1) (fun u h1 h2 => h u (by omega) (by omega)), show i + 1 + j = i + (j + 1) by omega]
theorem byL_ofL {A B : List UInt8} {w : ByteArray} {u : Nat} (h : u < w.size) : byL (ofL (A ++ (bl w ++ B))) (A.length + u) = byL w u := by
  have h2 : u < (bl w).length := by rw [bl_len]; exact h
  unfold byL
  rw [bl_ofL, List.getD_eq_getElem?_getD, List.getD_eq_getElem?_getD, List.getElem?_append_right (by omega), show A.length + u - A.length = u by omega, List.getElem?_append_left h2]
theorem extract_ofL {A B : List UInt8} {w : ByteArray} : (ofL (A ++ (bl w ++ B))).extract A.length (A.length + w.size) = w := by
  apply bl_inj
  rw [bl_mid, bl_ofL, mid_right _ _ (Nat.le_refl _), Nat.sub_self, mid_here _ _ (bl_len w)]
theorem names_go (p : Nat) : ∀ (ns : List ByteArray) (A : List UInt8) (out : List Wd), ns ≠ [] → (∀ n ∈ ns, nameOk n) → ∃ l, namesGo (ofL (A ++ joinC 44 ns)) p (joinC 44 ns).length A.length A.length out = .inl (out ++ l) ∧ l.map (·.t) = ns
  | [], A, out, h, _ => absurd rfl h
  | [n], A, out, _, h => by
    have hn := h n (by simp)
    refine ⟨[⟨n, p + A.length⟩], ?_, rfl⟩
    have he : joinC 44 [n] = bl n ++ [] := by rw [joinC, List.append_nil]
    have hl : (joinC 44 [n]).length = 0 + n.size := by rw [joinC, bl_len, Nat.zero_add]
    rw [hl, he, names_scan _ p A.length 0 out n.size A.length (fun u h1 h2 => by
      have h3 := byL_ofL (A := A) (B := []) (w := n) (u := u - A.length) (by omega)
      rw [show A.length + (u - A.length) = u by omega] at h3
      have h4 := hn.2.2 (u - A.length) (by omega)
      omega), namesGo_end, extract_ofL, if_pos (name_yes hn)]
  | n :: v :: r, A, out, _, h => by
    have hn := h n (by simp)
    obtain ⟨l, h1, h2⟩ := names_go p (v :: r) (A ++ bl n ++ [44]) (out ++ [⟨n, p + A.length⟩]) (by simp) (fun x hx => h x (by simp at hx ⊢; simp [hx]))
    refine ⟨⟨n, p + A.length⟩ :: l, ?_, by simp [h2]⟩
    have hl : (joinC 44 (n :: v :: r)).length = ((joinC 44 (v :: r)).length + 1) + n.size := by
      rw [joinC, List.length_append, List.length_cons, bl_len]
      omega
    have hc : byL (ofL (A ++ (bl n ++ 44 :: joinC 44 (v :: r)))) (A.length + n.size) = 44 := by
      unfold byL
      rw [bl_ofL, List.getD_eq_getElem?_getD, List.getElem?_append_right (by omega), show A.length + n.size - A.length = n.size by omega, List.getElem?_append_right (by rw [bl_len]; omega), bl_len, Nat.sub_self]
      rfl
    have hA : (A ++ bl n ++ [44]).length = A.length + n.size + 1 := by
      rw [List.length_append, List.length_append, bl_len]
      rfl
    have hs : A ++ bl n ++ [44] ++ joinC 44 (v :: r) = A ++ (bl n ++ 44 :: joinC 44 (v :: r)) := by simp
    rw [hA, hs] at h1
    rw [hl, joinC, names_scan _ p A.length _ out n.size A.length (fun u h1 h2 => by
      have h3 := byL_ofL (A := A) (B := 44 :: joinC 44 (v :: r)) (w := n) (u := u - A.length) (by omega)
      rw [show A.length + (u - A.length) = u by omega] at h3
      have h4 := hn.2.2 (u - A.length) (by omega)
      omega), namesGo_comma hc, extract_ofL, if_pos (name_yes hn), h1, List.append_assoc]
    rfl
theorem names_join {ns : List ByteArray} {p : Nat} (hne : ns ≠ []) (h : ∀ n ∈ ns, nameOk n) : ∃ l, namesP ⟨ofL (joinC 44 ns), p⟩ = .inl l ∧ l.map (·.t) = ns := by
  obtain ⟨l, h1, h2⟩ := names_go p ns [] [] hne h
  refine ⟨l, ?_, h2⟩
  unfold namesP
  rw [List.nil_append, List.nil_append] at h1
  dsimp only
  rw [ofL_size]
  exact h1
theorem dupGo_nodup (l : List Wd) (h : (l.map (·.t)).Nodup) : ∀ (f i : Nat), i + f ≤ l.length → dupGo l f i = none
  | 0, i, _ => rfl
  | f + 1, i, hi => by
    have hlt : i < l.length := by omega
    have h4 : l.getD i default = l[i] := by rw [List.getD_eq_getElem?_getD, List.getElem?_eq_getElem hlt]; rfl
    have hm : memB (l[i]).t ((l.take i).map (·.t)) = false := by
      cases hb : memB (l[i]).t ((l.take i).map (·.t)) with
      | false => rfl
      | true =>
        obtain ⟨y, hy, e⟩ := List.mem_map.1 (memB_iff.1 hb)
        obtain ⟨j, hj, rfl⟩ := List.mem_take_iff_getElem.1 hy
        have hj1 : j < i := by omega
        rw [List.nodup_iff_pairwise_ne, List.pairwise_iff_getElem] at h
        have := h j i (by rw [List.length_map]; omega) (by rw [List.length_map]; omega) hj1
        rw [List.getElem_map, List.getElem_map] at this
        exact absurd e this
    rw [dupGo, h4, hm]
    simp only [Bool.false_eq_true, if_false]
    exact dupGo_nodup l h f (i + 1) (by omega)
theorem dup_nodup {l : List Wd} (h : (l.map (·.t)).Nodup) : dupP l = none := dupGo_nodup l h _ 0 (by omega)
theorem find_at {names : List ByteArray} (hd : names.Nodup) {j : Nat} (hj : j < names.length) : findP names (names.getD j .empty) = some j := by
  have h4 : names.getD j .empty = names[j] := by rw [List.getD_eq_getElem?_getD, List.getElem?_eq_getElem hj]; rfl
  rw [h4]
  unfold findP
  rw [List.findIdx?_eq_some_iff_getElem]
  refine ⟨hj, decide_eq_true rfl, fun i hi => ?_⟩
  rw [List.nodup_iff_pairwise_ne, List.pairwise_iff_getElem] at hd
  have := hd i j (by omega) hj hi
  simpa using this

/-! ### A line, a text, read -/
theorem cons_t {l : List Wd} {a : ByteArray} {r : List ByteArray} (h : l.map (·.t) = a :: r) : ∃ p l', l = ⟨a, p⟩ :: l' ∧ l'.map (·.t) = r := by
  cases l with
  | nil => cases h
  | cons x l =>
    rw [List.map_cons] at h
    injection h with h1 h2
    exact ⟨x.p, l, by rw [← h1], h2⟩
theorem pair_go {g : Bool} {seen : List ByteArray} {x x' : LnP} {word v : ByteArray} {rest : List ByteArray} {l : List Wd} (hm : memB word (wordsP g) = true) (hs : memB word seen = false) (hv : ∀ p, valueP x word ⟨v, p⟩ = .inr x') (hl : l.map (·.t) = word :: v :: rest) : ∃ l', l'.map (·.t) = rest ∧ pairsP g seen x l = pairsP g (seen ++ [word]) x' l' := by
  obtain ⟨p, l1, rfl, h1⟩ := cons_t hl
  obtain ⟨q, l2, rfl, h2⟩ := cons_t h1
  refine ⟨l2, h2, ?_⟩
  rw [pairsP, if_neg (by rw [hm]; decide), if_neg (by rw [hs]; decide), hv q]
theorem pairs_aft {g : Bool} {seen : List ByteArray} {x : LnP} {names : List ByteArray} {a : List Nat} {l : List Wd} {rest : List ByteArray} (hn : ∀ j ∈ a, nameOk (names.getD j .empty)) (hd : (a.map fun j => names.getD j .empty).Nodup) (hs : memB sAfter seen = false) (hx : x.after = []) (hl : l.map (·.t) = aftW names a ++ rest) :
    ∃ la l', l'.map (·.t) = rest ∧ la.map (·.t) = (a.map fun j => names.getD j .empty) ∧ pairsP g seen x l = pairsP g (seen ++ (if a = [] then [] else [sAfter])) { x with after := la } l' := by
  by_cases ha : a = []
  · subst ha
    refine ⟨[], l, hl, rfl, ?_⟩
    rw [if_pos rfl, List.append_nil]
    cases x
    dsimp only at hx
    rw [hx]
  · obtain ⟨p, l1, rfl, h1⟩ := cons_t (a := sAfter) (r := aftB names a :: rest) (by rw [hl, aftW, if_neg ha]; rfl)
    obtain ⟨q, l2, rfl, h2⟩ := cons_t h1
    obtain ⟨la, h3, h4⟩ := names_join (ns := a.map fun j => names.getD j .empty) (p := q) (by simpa using ha) (fun n hn2 => by
      obtain ⟨j, hj, rfl⟩ := List.mem_map.1 hn2
      exact hn j hj)
    refine ⟨la, l2, h2, h4, ?_⟩
    have hm : memB sAfter (wordsP g) = true := by cases g <;> decide
    rw [if_neg ha, pairsP, if_neg (by rw [hm]; decide), if_neg (by rw [hs]; decide)]
    have h5 : valueP x sAfter ⟨aftB names a, q⟩ = .inr { x with after := la } := by
      have h6 : namesP ⟨aftB names a, q⟩ = .inl la := h3
      rw [valueP, if_pos rfl, h6]
      dsimp only
      rw [dup_nodup (by rw [h4]; exact hd)]
    dsimp only
    rw [h5]
theorem pairs_ret {seen : List ByteArray} {x : LnP} {n : Int} {l : List Wd} {rest : List ByteArray} (h0 : 0 ≤ n) (h5 : n ≤ 5) (hs : memB sRetry seen = false) (hx : x.retry = 0) (hl : l.map (·.t) = retW n ++ rest) :
    ∃ l', l'.map (·.t) = rest ∧ pairsP false seen x l = pairsP false (seen ++ (if 0 < n then [sRetry] else [])) { x with retry := n } l' := by
  by_cases hn : 0 < n
  · rw [retW, if_pos hn] at hl
    rw [if_pos hn]
    exact pair_go (x' := { x with retry := n }) (by decide) hs (fun p => by rw [valueP, if_neg (by decide), if_neg (by decide), if_pos rfl, num_dig h0 (by omega) h0 h5]) hl
  · obtain rfl : n = 0 := by omega
    rw [retW, if_neg hn] at hl
    refine ⟨l, hl, ?_⟩
    rw [if_neg hn, List.append_nil]
    cases x
    dsimp only at hx
    rw [hx]
theorem pairs_gate {seen : List ByteArray} {x : LnP} {t : TkP} {l : List Wd} {rest : List ByteArray} (h0 : 0 < t.need) (h4 : t.need ≤ 4) (hlab : 0 ≤ t.lv ∧ t.lv ≤ 7 ∧ 0 ≤ t.st ∧ t.st ≤ 65535) (hs : memB sTo seen = false) (hs2 : memB sNeed (seen ++ [sTo]) = false) (hl : l.map (·.t) = gateW t ++ rest) :
    ∃ l', l'.map (·.t) = rest ∧ pairsP true seen x l = pairsP true (seen ++ [sTo] ++ [sNeed]) { x with lv := t.lv, st := t.st, need := t.need } l' := by
  rw [gateW, if_pos h0] at hl
  obtain ⟨l1, h1, e1⟩ := pair_go (g := true) (seen := seen) (x := x) (x' := { x with lv := t.lv, st := t.st }) (by decide) hs (fun p => by rw [valueP, if_neg (by decide), if_pos rfl, lab_text hlab.1 hlab.2.1 ⟨hlab.2.2.1, by omega⟩]) hl
  obtain ⟨l2, h2, e2⟩ := pair_go (g := true) (seen := seen ++ [sTo]) (x := { x with lv := t.lv, st := t.st }) (x' := { x with lv := t.lv, st := t.st, need := t.need }) (by decide) hs2 (fun p => by rw [valueP, if_neg (by decide), if_neg (by decide), if_neg (by decide), if_neg (by decide), if_pos rfl, num_dig (by omega) (by omega) (by omega) h4]) h1
  exact ⟨l2, h2, e1.trans e2⟩
theorem pairs_time {g : Bool} {seen : List ByteArray} {x : LnP} {n : Int} {l : List Wd} (h0 : 1 ≤ n) (h5 : n ≤ 100) (hs : memB sTime seen = false) (hl : l.map (·.t) = [sTime, digB n]) : pairsP g seen x l = .inr ({ x with time := n }, seen ++ [sTime]) := by
  obtain ⟨l1, h1, e1⟩ := pair_go (g := g) (seen := seen) (x := x) (x' := { x with time := n }) (by cases g <;> decide) hs (fun p => by rw [valueP, if_neg (by decide), if_neg (by decide), if_neg (by decide), if_pos rfl, num_dig (by omega) h5 h0 h5]) hl
  obtain rfl : l1 = [] := by simpa using h1
  rw [e1, pairsP]
/-- A line's task is the pipeline's. -/
structure LnIs (names : List ByteArray) (x : LnP) (t : TkP) : Prop where
  name : x.name = t.name
  retry : x.retry = t.retry
  time : x.time = t.time
  need : x.need = t.need
  lv : x.lv = t.lv
  st : x.st = t.st
  after : x.after.map (·.t) = t.after.map fun j => names.getD j .empty
theorem line_go {k nm : ByteArray} {p0 p1 : Nat} {l2 : List Wd} {ahead : List ByteArray} (h8 : ahead.length ≠ 8) (hk : k = sTask ∨ k = sGate) (hn : nameOk nm) (hm : nm ∉ ahead) :
    lineP (⟨k, p0⟩ :: ⟨nm, p1⟩ :: l2) ahead = match pairsP (decide (k = sGate)) [] (ln0 nm) l2 with
      | .inl e => .inl e
      | .inr (x, seen) => if k = sGate ∧ (memB sTo seen = false ∨ memB sNeed seen = false) then .inl ⟨3, p0⟩ else .inr x := by
  have hmem : memB nm ahead = false := by
    cases hb : memB nm ahead with
    | false => rfl
    | true => exact absurd (memB_iff.1 hb) hm
  have e0 : (⟨k, p0⟩ :: ⟨nm, p1⟩ :: l2 : List Wd).getD 0 default = ⟨k, p0⟩ := rfl
  have e1 : (⟨k, p0⟩ :: ⟨nm, p1⟩ :: l2 : List Wd).getD 1 default = ⟨nm, p1⟩ := rfl
  have e2 : (⟨k, p0⟩ :: ⟨nm, p1⟩ :: l2 : List Wd).drop 2 = l2 := rfl
  unfold lineP
  rw [e0, e1, e2]
  dsimp only
  rw [if_neg h8, if_neg (by rcases hk with rfl | rfl <;> simp), if_neg (by simp), if_neg (by rw [name_yes hn]; decide), if_neg (by rw [hmem]; decide)]
  generalize pairsP (decide (k = sGate)) [] (ln0 nm) l2 = r
  cases r with
  | inl e => rfl
  | inr y =>
    obtain ⟨x, seen⟩ := y
    rfl
theorem line_text {n : Nat} {t : TkP} {names ahead : List ByteArray} {l : List Wd} (ht : TaskOk n t) (hn : names.length = n) (hok : ∀ j, j < n → nameOk (names.getD j .empty)) (hd : names.Nodup) (h8 : ahead.length ≠ 8) (hnew : t.name ∉ ahead) (hl : l.map (·.t) = taskW names t) : ∃ x, lineP l ahead = .inr x ∧ LnIs names x t := by
  obtain ⟨p0, l1, rfl, h1⟩ := cons_t hl
  obtain ⟨p1, l2, rfl, h2⟩ := cons_t h1
  have hdn : (t.after.map fun j => names.getD j .empty).Nodup := by
    rw [List.nodup_iff_pairwise_ne, List.pairwise_map]
    have h3 := ht.aft.2
    rw [List.nodup_iff_pairwise_ne] at h3
    refine h3.imp_of_mem (fun {a b} ha hb hab e => hab ?_)
    have ea := find_at hd (hn ▸ ht.aft.1 a ha)
    have eb := find_at hd (hn ▸ ht.aft.1 b hb)
    rw [e, eb] at ea
    injection ea with ea
    exact ea.symm
  rw [line_go h8 (by split <;> simp) ht.name hnew]
  by_cases hg : 0 < t.need
  · rw [if_pos hg]
    have hr := ht.gate hg
    have h2' : l2.map (·.t) = aftW names t.after ++ (gateW t ++ [sTime, digB t.time]) := by
      rw [h2, hr]
      rfl
    obtain ⟨la, l3, h3, h4, e1⟩ := pairs_aft (g := true) (seen := []) (x := ln0 t.name) (fun j hj => hok j (ht.aft.1 j hj)) hdn (by decide) rfl h2'
    obtain ⟨l4, h5, e2⟩ := pairs_gate (seen := [] ++ (if t.after = [] then [] else [sAfter])) (x := { ln0 t.name with after := la }) hg ht.need.2 ht.lab (by split <;> decide) (by split <;> decide) h3
    have e3 := pairs_time (g := true) (seen := [] ++ (if t.after = [] then [] else [sAfter]) ++ [sTo] ++ [sNeed]) (x := { ln0 t.name with after := la, lv := t.lv, st := t.st, need := t.need }) ht.time.1 ht.time.2 (by split <;> decide) h5
    have hgt : decide (sGate = sGate) = true := decide_eq_true rfl
    rw [hgt, e1, e2, e3]
    dsimp only
    rw [if_neg (by
      rintro ⟨_, h | h⟩
      · revert h
        split <;> decide
      · revert h
        split <;> decide)]
    exact ⟨_, rfl, rfl, hr.symm, rfl, rfl, rfl, rfl, h4⟩
  · rw [if_neg hg]
    have hz : t.need = 0 := by have := ht.need.1; omega
    have hp := ht.plain hz
    have h2' : l2.map (·.t) = aftW names t.after ++ (retW t.retry ++ [sTime, digB t.time]) := by
      rw [h2, gateW, if_neg hg]
      rfl
    obtain ⟨la, l3, h3, h4, e1⟩ := pairs_aft (g := false) (seen := []) (x := ln0 t.name) (fun j hj => hok j (ht.aft.1 j hj)) hdn (by decide) rfl h2'
    obtain ⟨l4, h5, e2⟩ := pairs_ret (seen := [] ++ (if t.after = [] then [] else [sAfter])) (x := { ln0 t.name with after := la }) ht.retry.1 ht.retry.2 (by split <;> decide) rfl h3
    have e3 := pairs_time (g := false) (seen := [] ++ (if t.after = [] then [] else [sAfter]) ++ (if 0 < t.retry then [sRetry] else [])) (x := { ln0 t.name with after := la, retry := t.retry }) ht.time.1 ht.time.2 (by split <;> split <;> decide) h5
    have hgt : decide (sTask = sGate) = false := by decide
    rw [hgt, e1, e2, e3]
    dsimp only
    rw [if_neg (by rintro ⟨h, _⟩; revert h; decide)]
    exact ⟨_, rfl, rfl, rfl, rfl, hz.symm, hp.1.symm, hp.2.symm, h4⟩
inductive LnsAre (names : List ByteArray) : List LnP → List TkP → Prop where
  | nil : LnsAre names [] []
  | cons {x : LnP} {t : TkP} {xs : List LnP} {ts : List TkP} : LnIs names x t → LnsAre names xs ts → LnsAre names (x :: xs) (t :: ts)
theorem LnsAre.names {names : List ByteArray} {xs : List LnP} {ts : List TkP} (h : LnsAre names xs ts) : xs.map (·.name) = ts.map (·.name) := by
  induction h with
  | nil => rfl
  | cons hi _ ih => rw [List.map_cons, List.map_cons, hi.name, ih]
theorem lines_text {n : Nat} {names : List ByteArray} (hn : names.length = n) (hn8 : n ≤ 8) (hok : ∀ j, j < n → nameOk (names.getD j .empty)) (hd : names.Nodup) : ∀ (ts : List TkP) (acc : List LnP) (L : List (List Wd)), (∀ t ∈ ts, TaskOk n t) → acc.map (·.name) ++ ts.map (·.name) = names → L.map (·.map (·.t)) = ts.map (taskW names) → ∃ xs, linesP acc L = .inr (acc ++ xs) ∧ LnsAre names xs ts
  | [], acc, L, _, _, hL => by
    obtain rfl : L = [] := by simpa using hL
    exact ⟨[], by simp [linesP], .nil⟩
  | t :: ts, acc, L, ht, hnm, hL => by
    cases L with
    | nil => cases hL
    | cons l L =>
      rw [List.map_cons, List.map_cons] at hL
      injection hL with h1 h2
      have hlen : acc.length + (ts.length + 1) = n := by
        rw [← hn, ← hnm]
        simp
      have hnew : t.name ∉ acc.map (·.name) := fun h => by
        rw [← hnm, List.nodup_append] at hd
        exact hd.2.2 _ h _ (by simp) rfl
      obtain ⟨x, hx, hi⟩ := line_text (ahead := acc.map (·.name)) (ht t (by simp)) hn hok hd (by rw [List.length_map]; omega) hnew h1
      obtain ⟨xs, h3, h4⟩ := lines_text hn hn8 hok hd ts (acc ++ [x]) L (fun u hu => ht u (by simp [hu])) (by rw [← hnm]; simp [hi.name]) h2
      refine ⟨x :: xs, ?_, .cons hi h4⟩
      rw [lines_good hx, h3, List.append_assoc]
      rfl
theorem places_text {names : List ByteArray} (hd : names.Nodup) : ∀ (js : List Nat) (ws : List Wd) (acc : List Nat), (∀ j ∈ js, j < names.length) → ws.map (·.t) = js.map (fun j => names.getD j .empty) → placesP names acc ws = .inr (acc ++ js)
  | [], ws, acc, _, h => by
    obtain rfl : ws = [] := by simpa using h
    simp [placesP]
  | j :: js, ws, acc, hj, h => by
    obtain ⟨p, ws', rfl, h2⟩ := cons_t (a := names.getD j .empty) (r := js.map (fun j => names.getD j .empty)) h
    rw [places_good (find_at hd (hj j (by simp))), places_text hd js ws' _ (fun i hi => hj i (by simp [hi])) h2, List.append_assoc]
    rfl
theorem tasks_text {names : List ByteArray} (hd : names.Nodup) : ∀ (xs : List LnP) (ts : List TkP) (acc : List TkP), LnsAre names xs ts → (∀ t ∈ ts, ∀ j ∈ t.after, j < names.length) → tasksP names acc xs = .inr (acc ++ ts)
  | [], _, acc, .nil, _ => by simp [tasksP]
  | x :: xs, t :: ts, acc, .cons h1 h2, hj => by
    have h3 := places_text hd t.after x.after [] (hj t (by simp)) h1.after
    rw [List.nil_append] at h3
    rw [tasks_good h3, tasks_text hd xs ts _ h2 (fun u hu => hj u (by simp [hu])), h1.name, h1.retry, h1.time, h1.need, h1.lv, h1.st, List.append_assoc]
    rfl
theorem text_words {p : PiP} (h : RightPi p) : ∀ l ∈ textW p, l ≠ [] ∧ ∀ w ∈ l, WordOk w := by
  intro l hl
  have hd : ∀ w : ByteArray, w ≠ .empty → (∀ b ∈ bl w, isW b.toNat = true) → WordOk w := fun w h1 h2 => ⟨h1, h2⟩
  rw [textW] at hl
  rcases List.mem_cons.1 hl with rfl | hl
  · refine ⟨by simp, fun w hw => ?_⟩
    simp only [List.mem_cons, List.not_mem_nil, or_false] at hw
    rcases hw with rfl | rfl
    · exact hd _ (by decide) (by decide)
    · exact word_name h.name
  · obtain ⟨t, ht, rfl⟩ := List.mem_map.1 hl
    have hk := h.task t ht
    refine ⟨by simp [taskW], fun w hw => ?_⟩
    rw [taskW] at hw
    rcases List.mem_cons.1 hw with rfl | hw
    · split
      · exact hd _ (by decide) (by decide)
      · exact hd _ (by decide) (by decide)
    · rcases List.mem_cons.1 hw with rfl | hw
      · exact word_name hk.name
      · rcases List.mem_append.1 hw with hw | hw
        · unfold aftW at hw
          split at hw
          · cases hw
          · rename_i ha
            simp only [List.mem_cons, List.not_mem_nil, or_false] at hw
            rcases hw with rfl | rfl
            · exact hd _ (by decide) (by decide)
            · refine word_names (by simpa using ha) (fun m hm => ?_)
              obtain ⟨j, hj, rfl⟩ := List.mem_map.1 hm
              have hjl := hk.aft.1 j hj
              have e : (p.tasks.map (·.name)).getD j .empty = (p.tasks[j]).name := by
                rw [List.getD_eq_getElem?_getD, List.getElem?_eq_getElem (by rw [List.length_map]; exact hjl)]
                simp
              rw [e]
              exact (h.task _ (List.getElem_mem hjl)).name
        · rcases List.mem_append.1 hw with hw | hw
          · unfold retW at hw
            split at hw
            · simp only [List.mem_cons, List.not_mem_nil, or_false] at hw
              rcases hw with rfl | rfl
              · exact hd _ (by decide) (by decide)
              · exact word_dig hk.retry.1 (by have := hk.retry.2; omega)
            · cases hw
          · rcases List.mem_append.1 hw with hw | hw
            · unfold gateW at hw
              split at hw
              · simp only [List.mem_cons, List.not_mem_nil, or_false] at hw
                rcases hw with rfl | rfl | rfl | rfl
                · exact hd _ (by decide) (by decide)
                · exact word_lab hk.lab.1 hk.lab.2.1
                · exact hd _ (by decide) (by decide)
                · exact word_dig hk.need.1 (by have := hk.need.2; omega)
              · cases hw
            · simp only [List.mem_cons, List.not_mem_nil, or_false] at hw
              rcases hw with rfl | rfl
              · exact hd _ (by decide) (by decide)
              · exact word_dig (by have := hk.time.1; omega) hk.time.2
/-- A pipeline that may be, as a text, is read as it was. -/
theorem parse_text {p : PiP} (h : RightPi p) (hz : (textP p).size ≤ 600) : parseP (textP p) = .inr p := by
  obtain ⟨L, h1, h2⟩ := lex_lines (text_words h) hz
  cases L with
  | nil => cases h2
  | cons l0 L =>
    rw [textW, List.map_cons] at h2
    injection h2 with h3 h4
    obtain ⟨p0, l1, rfl, h5⟩ := cons_t h3
    obtain ⟨p1, l2, rfl, h6⟩ := cons_t h5
    obtain rfl : l2 = [] := by simpa using h6
    have hlen : (p.tasks.map (·.name)).length = p.tasks.length := List.length_map _
    have hok : ∀ j, j < p.tasks.length → nameOk ((p.tasks.map (·.name)).getD j .empty) := fun j hj => by
      have e : (p.tasks.map (·.name)).getD j .empty = (p.tasks[j]).name := by
        rw [List.getD_eq_getElem?_getD, List.getElem?_eq_getElem (by rw [List.length_map]; exact hj)]
        simp
      rw [e]
      exact (h.task _ (List.getElem_mem hj)).name
    obtain ⟨xs, h7, h8⟩ := lines_text hlen h.few.2 hok h.names p.tasks [] L h.task (by simp) h4
    have hnm := h8.names
    have hne : xs ≠ [] := fun e => by
      rw [e] at hnm
      have h9 := h.few.1
      rw [← hlen, ← hnm] at h9
      simp at h9
    have h10 := tasks_text h.names xs p.tasks [] h8 (fun t ht j hj => by rw [hlen]; exact (h.task t ht).aft.1 j hj)
    have h11 : lexP (textP p) = .good ([⟨sPipe, p0⟩, ⟨p.name, p1⟩] :: L) := h1
    rw [parse_go (a := ⟨sPipe, p0⟩) (b := ⟨p.name, p1⟩) h11 rfl rfl rfl rfl (name_yes h.name), h7, List.nil_append, endL_some hne, hnm, h10]
    rfl
end Go.Proofs.YtcfnmjhelhdobaaGreatDoor
