/-
  Which pipelines may be, when two are the same; a text's pipeline may be. Plain facts: no program is named here.
-/
import Derived.Test.YtcddbpdebklhnaaGreatDoorManR
namespace Go.Proofs.YtcddbpdebklhnaaGreatDoor

structure TaskOk (n : Nat) (t : TkP) : Prop where
  name : nameOk t.name
  time : 1 ≤ t.time ∧ t.time ≤ 100
  need : 0 ≤ t.need ∧ t.need ≤ 4
  retry : 0 ≤ t.retry ∧ t.retry ≤ 5
  lab : 0 ≤ t.lv ∧ t.lv ≤ 7 ∧ 0 ≤ t.st ∧ t.st ≤ 65535
  plain : t.need = 0 → t.lv = 0 ∧ t.st = 0
  gate : 0 < t.need → t.retry = 0
  aft : (∀ j ∈ t.after, j < n) ∧ t.after.Nodup
structure RightPi (p : PiP) : Prop where
  name : nameOk p.name
  few : 1 ≤ p.tasks.length ∧ p.tasks.length ≤ 8
  task : ∀ t ∈ p.tasks, TaskOk p.tasks.length t
  names : (p.tasks.map (·.name)).Nodup
def sameT (t u : TkP) : Bool := decide (t.name = u.name) && decide (t.retry = u.retry) && decide (t.time = u.time) && decide (t.need = u.need) && decide (t.lv = u.lv ∧ t.st = u.st) && decide (t.after = u.after)
def sameL : List TkP → List TkP → Bool
  | [], [] => true
  | t :: ts, u :: us => sameT t u && sameL ts us
  | _, _ => false
def sameP (p q : PiP) : Bool := decide (p.name = q.name) && sameL p.tasks q.tasks
theorem sameT_iff {t u : TkP} : sameT t u = true ↔ t = u := by
  obtain ⟨n1, a1, r1, t1, e1, l1, s1⟩ := t
  obtain ⟨n2, a2, r2, t2, e2, l2, s2⟩ := u
  simp only [sameT, Bool.and_eq_true, decide_eq_true_eq, TkP.mk.injEq]
  constructor
  · rintro ⟨⟨⟨⟨⟨h1, h2⟩, h3⟩, h4⟩, h5, h6⟩, h7⟩
    exact ⟨h1, h7, h2, h3, h4, h5, h6⟩
  · rintro ⟨h1, h7, h2, h3, h4, h5, h6⟩
    exact ⟨⟨⟨⟨⟨h1, h2⟩, h3⟩, h4⟩, h5, h6⟩, h7⟩
theorem sameL_iff : ∀ {ts us : List TkP}, sameL ts us = true ↔ ts = us
  | [], [] => by simp [sameL]
  | t :: ts, u :: us => by simp [sameL, sameT_iff, sameL_iff (ts := ts) (us := us)]
  | [], u :: us => by simp [sameL]
  | t :: ts, [] => by simp [sameL]
theorem sameP_iff {p q : PiP} : sameP p q = true ↔ p = q := by
  cases p
  cases q
  simp [sameP, sameL_iff]
theorem sameL_len : ∀ {ts us : List TkP}, ts.length ≠ us.length → sameL ts us = false
  | [], [], h => absurd rfl h
  | t :: ts, u :: us, h => by
    rw [sameL, sameL_len (ts := ts) (us := us) (fun e => h (by simp [e])), Bool.and_false]
  | [], u :: us, _ => rfl
  | t :: ts, [], _ => rfl

/-- What holds of a line's task, as far as it is told. -/
structure LnInv (g : Bool) (x : LnP) : Prop where
  name : nameOk x.name
  time : 1 ≤ x.time ∧ x.time ≤ 100
  need : 0 ≤ x.need ∧ x.need ≤ 4
  retry : 0 ≤ x.retry ∧ x.retry ≤ 5
  lab : 0 ≤ x.lv ∧ x.lv ≤ 7 ∧ 0 ≤ x.st ∧ x.st ≤ 65535
  plain : g = false → x.need = 0 ∧ x.lv = 0 ∧ x.st = 0
  gate : g = true → x.retry = 0
  aft : (x.after.map (·.t)).Nodup
theorem dupGo_none (l : List Wd) : ∀ (f i : Nat), dupGo l f i = none → ∀ j, i ≤ j → j < i + f → memB (l.getD j default).t ((l.take j).map (·.t)) = false
  | 0, i, _, j, h1, h2 => absurd h2 (by omega)
  | f + 1, i, h, j, h1, h2 => by
    rw [dupGo] at h
    split at h
    · cases h
    · rename_i hm
      rcases Nat.eq_or_lt_of_le h1 with rfl | h3
      · simpa using hm
      · exact dupGo_none l f (i + 1) h j h3 (by omega)
theorem dup_none {l : List Wd} (h : dupP l = none) : (l.map (·.t)).Nodup := by
  have h2 := dupGo_none l l.length 0 h
  rw [List.nodup_iff_pairwise_ne, List.pairwise_iff_getElem]
  intro i j hi hj hij e
  rw [List.length_map] at hi hj
  have h3 := h2 j (Nat.zero_le _) (by omega)
  have h4 : l.getD j default = l[j] := by rw [List.getD_eq_getElem?_getD, List.getElem?_eq_getElem hj]; rfl
  have h5 : memB (l[j]).t ((l.take j).map (·.t)) = true := memB_iff.2 (List.mem_map.2 ⟨l[i], List.mem_take_iff_getElem.2 ⟨i, by omega, rfl⟩, by simpa using e⟩)
  rw [h4, h5] at h3
  cases h3
theorem lab_some {s : ByteArray} {a b : Int} (h : labP s = some (a, b)) : 0 ≤ a ∧ a ≤ 7 ∧ 0 ≤ b ∧ b ≤ 65535 := by
  unfold labP at h
  split at h
  · rename_i hg
    obtain ⟨_, _, h0, h7, hd⟩ := hg
    have hr := setV_range s 4 hd
    injection h with h
    injection h with h1 h2
    subst h1 h2
    omega
  · cases h
theorem num_some {s : ByteArray} {lo hi n : Int} (h : numP s lo hi = some n) : lo ≤ n ∧ n ≤ hi := by
  unfold numP at h
  split at h
  · rename_i hc
    injection h with h
    subst h
    exact ⟨hc.2.1, hc.2.2⟩
  · cases h
theorem value_inv {g : Bool} {x x' : LnP} {word : ByteArray} {w : Wd} (hm : memB word (wordsP g) = true) (hx : LnInv g x) (h : valueP x word w = .inr x') : LnInv g x' ∧ x'.name = x.name ∧ (word = sNeed → 1 ≤ x'.need) ∧ (1 ≤ x.need → 1 ≤ x'.need) := by
  obtain ⟨k1, k2, k3, k4, k5, k6, k7, k8⟩ := hx
  rcases val_word hm with rfl | rfl | rfl | rfl | rfl
  · rw [valueP, if_pos rfl] at h
    split at h
    · cases h
    · split at h
      · cases h
      · rename_i l _ hd
        injection h with h
        subst h
        exact ⟨⟨k1, k2, k3, k4, k5, k6, k7, dup_none hd⟩, rfl, fun e => absurd e (by decide), id⟩
  · rw [valueP, if_neg (by decide), if_neg (by decide), if_neg (by decide), if_pos rfl] at h
    split at h
    · cases h
    · rename_i n hn
      injection h with h
      subst h
      exact ⟨⟨k1, num_some hn, k3, k4, k5, k6, k7, k8⟩, rfl, fun e => absurd e (by decide), id⟩
  · rw [valueP, if_neg (by decide), if_pos rfl] at h
    split at h
    · cases h
    · rename_i a b hn
      injection h with h
      subst h
      refine ⟨⟨k1, k2, k3, k4, lab_some hn, fun hg => ?_, k7, k8⟩, rfl, fun e => absurd e (by decide), id⟩
      subst hg
      exact absurd hm (by decide)
  · rw [valueP, if_neg (by decide), if_neg (by decide), if_neg (by decide), if_neg (by decide), if_pos rfl] at h
    split at h
    · cases h
    · rename_i n hn
      injection h with h
      subst h
      have h4 := num_some hn
      refine ⟨⟨k1, k2, ⟨by show 0 ≤ n; omega, h4.2⟩, k4, k5, fun hg => ?_, k7, k8⟩, rfl, fun _ => h4.1, fun _ => h4.1⟩
      subst hg
      exact absurd hm (by decide)
  · rw [valueP, if_neg (by decide), if_neg (by decide), if_pos rfl] at h
    split at h
    · cases h
    · rename_i n hn
      injection h with h
      subst h
      refine ⟨⟨k1, k2, k3, num_some hn, k5, k6, fun hg => ?_, k8⟩, rfl, fun e => absurd e (by decide), id⟩
      subst hg
      exact absurd hm (by decide)
theorem pairs_inv {g : Bool} : ∀ (l : List Wd) (seen : List ByteArray) (x : LnP) (y : LnP × List ByteArray), LnInv g x → (sNeed ∈ seen → 1 ≤ x.need) → pairsP g seen x l = .inr y → LnInv g y.1 ∧ y.1.name = x.name ∧ (sNeed ∈ y.2 → 1 ≤ y.1.need)
  | [], seen, x, y, hx, hs, h => by
    rw [pairsP] at h
    injection h with h
    subst h
    exact ⟨hx, rfl, hs⟩
  | [a], seen, x, y, hx, hs, h => by
    rw [pairsP] at h
    split at h
    · cases h
    · split at h
      · cases h
      · cases h
  | a :: b :: r, seen, x, y, hx, hs, h => by
    rw [pairsP] at h
    split at h
    · cases h
    · rename_i hm
      split at h
      · cases h
      · split at h
        · cases h
        · rename_i x' hx'
          obtain ⟨h1, h2, h3, h4⟩ := value_inv (by simpa using hm) hx hx'
          obtain ⟨h5, h6, h7⟩ := pairs_inv r _ x' y h1 (fun hn => by
            rcases List.mem_append.1 hn with hn | hn
            · exact h4 (hs hn)
            · exact h3 (List.mem_singleton.1 hn).symm) h
          exact ⟨h5, h6.trans h2, h7⟩
theorem name_ok {s : ByteArray} (h : ¬ nameP s = false) : nameOk s := by
  have h2 : nameP s = true := by simpa using h
  exact of_decide_eq_true h2
theorem ln0_inv {g : Bool} {n : ByteArray} (h : nameOk n) : LnInv g (ln0 n) := by
  refine ⟨h, ?_, ?_, ?_, ?_, fun _ => ⟨rfl, rfl, rfl⟩, fun _ => rfl, List.nodup_nil⟩ <;> simp [ln0]
/-- A line's task. -/
structure LnFin (x : LnP) : Prop where
  name : nameOk x.name
  time : 1 ≤ x.time ∧ x.time ≤ 100
  need : 0 ≤ x.need ∧ x.need ≤ 4
  retry : 0 ≤ x.retry ∧ x.retry ≤ 5
  lab : 0 ≤ x.lv ∧ x.lv ≤ 7 ∧ 0 ≤ x.st ∧ x.st ≤ 65535
  plain : x.need = 0 → x.lv = 0 ∧ x.st = 0
  gate : 0 < x.need → x.retry = 0
  aft : (x.after.map (·.t)).Nodup
theorem line_inv {l : List Wd} {names : List ByteArray} {x : LnP} (h : lineP l names = .inr x) : LnFin x ∧ x.name ∉ names ∧ names.length ≠ 8 := by
  unfold lineP at h
  dsimp only at h
  split at h
  · cases h
  · rename_i h8
    split at h
    · cases h
    · split at h
      · cases h
      · split at h
        · cases h
        · rename_i hn
          split at h
          · cases h
          · rename_i hm
            split at h
            · cases h
            · rename_i y seen he
              split at h
              · cases h
              · rename_i hg
                injection h with h
                subst h
                obtain ⟨h1, h2, h3⟩ := pairs_inv (l.drop 2) [] (ln0 (l.getD 1 default).t) (y, seen) (ln0_inv (name_ok hn)) (fun hs => absurd hs (by simp)) he
                dsimp only at h1 h2 h3
                have hnm : y.name = (l.getD 1 default).t := h2
                refine ⟨⟨h1.name, h1.time, h1.need, h1.retry, h1.lab, fun e => ?_, fun e => ?_, h1.aft⟩, fun hin => hm (memB_iff.2 (hnm ▸ hin)), h8⟩
                · by_cases hgt : (l.getD 0 default).t = sGate
                  · have hs : memB sNeed seen = true := by
                      cases hb : memB sNeed seen with
                      | true => rfl
                      | false => exact absurd ⟨hgt, .inr hb⟩ hg
                    have := h3 (memB_iff.1 hs)
                    omega
                  · exact (h1.plain (decide_eq_false hgt)).2
                · by_cases hgt : (l.getD 0 default).t = sGate
                  · exact h1.gate (decide_eq_true hgt)
                  · have := (h1.plain (decide_eq_false hgt)).1
                    omega
theorem lines_inv : ∀ (L : List (List Wd)) (acc xs : List LnP), (∀ x ∈ acc, LnFin x) → (acc.map (·.name)).Nodup → acc.length ≤ 8 → linesP acc L = .inr xs → (∀ x ∈ xs, LnFin x) ∧ (xs.map (·.name)).Nodup ∧ xs.length ≤ 8
  | [], acc, xs, h1, h2, h3, h => by
    rw [linesP] at h
    injection h with h
    subst h
    exact ⟨h1, h2, h3⟩
  | l :: L, acc, xs, h1, h2, h3, h => by
    rw [linesP] at h
    split at h
    · cases h
    · rename_i x hx
      obtain ⟨k1, k2, k3⟩ := line_inv hx
      refine lines_inv L (acc ++ [x]) xs (fun y hy => ?_) ?_ ?_ h
      · rcases List.mem_append.1 hy with hy | hy
        · exact h1 y hy
        · obtain rfl := List.mem_singleton.1 hy
          exact k1
      · rw [List.map_append, List.nodup_append]
        refine ⟨h2, List.nodup_cons.2 ⟨by simp, List.nodup_nil⟩, fun a ha b hb e => ?_⟩
        obtain rfl := List.mem_singleton.1 hb
        exact k2 (by have e2 : a = x.name := e; rw [← e2]; exact ha)
      · rw [List.length_map] at k3
        rw [List.length_append]
        show acc.length + 1 ≤ 8
        omega
theorem find_some {l : List ByteArray} {x : ByteArray} {n : Nat} (h : findP l x = some n) : l[n]? = some x := by
  unfold findP at h
  rw [List.findIdx?_eq_some_iff_getElem] at h
  obtain ⟨hn, h1, _⟩ := h
  rw [List.getElem?_eq_getElem hn, of_decide_eq_true h1]
/-- The places of a task's names. -/
theorem places_inv (names : List ByteArray) : ∀ (ws : List Wd) (acc out : List Nat) (ts : List ByteArray), acc.map (fun n => names[n]?) = ts.map some → placesP names acc ws = .inr out → out.map (fun n => names[n]?) = (ts ++ ws.map (·.t)).map some
  | [], acc, out, ts, h1, h => by
    rw [placesP] at h
    injection h with h
    subst h
    simpa using h1
  | w :: ws, acc, out, ts, h1, h => by
    rw [placesP] at h
    split at h
    · cases h
    · rename_i n hn
      have h2 := places_inv names ws (acc ++ [n]) out (ts ++ [w.t]) (by rw [List.map_append, List.map_append, h1]; simp [find_some hn]) h
      rw [h2]
      simp
theorem places_ok {names : List ByteArray} {ws : List Wd} {out : List Nat} (hd : (ws.map (·.t)).Nodup) (h : placesP names [] ws = .inr out) : (∀ j ∈ out, j < names.length) ∧ out.Nodup := by
  have h2 := places_inv names ws [] out [] rfl h
  rw [List.nil_append] at h2
  constructor
  · intro j hj
    have h3 : names[j]? ∈ out.map (fun n => names[n]?) := List.mem_map.2 ⟨j, hj, rfl⟩
    rw [h2] at h3
    obtain ⟨y, _, hy⟩ := List.mem_map.1 h3
    exact (List.getElem?_eq_some_iff.1 hy.symm).1
  · have h3 : (out.map (fun n => names[n]?)).Nodup := by
      rw [h2]
      exact hd.map some (fun a b hab e => hab (by injection e))
    exact List.Pairwise.of_map (fun n => names[n]?) (fun a b hab e => hab (by rw [e])) h3
theorem tasks_inv {names : List ByteArray} {n : Nat} (hn : names.length = n) : ∀ (xs : List LnP) (acc ts : List TkP), (∀ x ∈ xs, LnFin x) → (∀ t ∈ acc, TaskOk n t) → tasksP names acc xs = .inr ts → (∀ t ∈ ts, TaskOk n t) ∧ ts.map (·.name) = acc.map (·.name) ++ xs.map (·.name)
  | [], acc, ts, h1, h2, h => by
    rw [tasksP] at h
    injection h with h
    subst h
    exact ⟨h2, by simp⟩
  | x :: xs, acc, ts, h1, h2, h => by
    rw [tasksP] at h
    split at h
    · cases h
    · rename_i a ha
      have hx := h1 x (by simp)
      obtain ⟨k1, k2⟩ := places_ok hx.aft ha
      obtain ⟨h3, h4⟩ := tasks_inv hn xs _ ts (fun y hy => h1 y (by simp [hy])) (fun t ht => by
        rcases List.mem_append.1 ht with ht | ht
        · exact h2 t ht
        · obtain rfl := List.mem_singleton.1 ht
          exact ⟨hx.name, hx.time, hx.need, hx.retry, hx.lab, hx.plain, hx.gate, fun j hj => hn ▸ k1 j hj, k2⟩) h
      exact ⟨h3, by rw [h4]; simp⟩
/-- A text's pipeline may be. -/
theorem parse_right {s : ByteArray} {p : PiP} (h : parseP s = .inr p) : RightPi p := by
  unfold parseP at h
  split at h
  · cases h
  · cases h
  · split at h
    · cases h
    · split at h
      · cases h
      · split at h
        · cases h
        · rename_i hn
          split at h
          · cases h
          · cases h
          · rename_i L xs hne hxs
            split at h
            · cases h
            · rename_i ts hts
              injection h with h
              subst h
              obtain ⟨h1, h2, h3⟩ := lines_inv _ [] _ (fun x hx => absurd hx (by simp)) List.nodup_nil (Nat.zero_le _) hxs
              obtain ⟨h4, h5⟩ := tasks_inv (List.length_map _) xs [] ts h1 (fun t ht => absurd ht (by simp)) hts
              have h6 : ts.length = xs.length := by
                have := congrArg List.length h5
                simpa using this
              refine ⟨name_ok hn, ⟨?_, by show ts.length ≤ 8; omega⟩, fun t ht => ?_, ?_⟩
              · show 1 ≤ ts.length
                cases xs with
                | nil => exact absurd rfl hne
                | cons x xs => rw [h6]; simp
              · show TaskOk ts.length t
                rw [h6]
                exact h4 t ht
              · show (ts.map (·.name)).Nodup
                rw [h5]
                simpa using h2
end Go.Proofs.YtcddbpdebklhnaaGreatDoor
