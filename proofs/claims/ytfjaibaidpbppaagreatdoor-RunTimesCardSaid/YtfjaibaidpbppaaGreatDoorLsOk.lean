/-
  From each task, those that it comes behind: the document's table, filled in row by row, tells just that. No program is named here. Votes as numbers, in plain words; what the law asks of the program's Write and Read. Conditions: what the library's variables hold. The program's lease is what layer 11's laws ask. No conditions but sizes.
-/
import Derived.Test.YtfjaibaidpbppaaGreatDoorRnP
import Derived.Test.YtfjaibaidpbppaaGreatDoorLsAw
import Derived.Test.YtfjaibaidpbppaaGreatDoorCodBa
import Derived.Test.YtfjaibaidpbppaaGreatDoorLsR
namespace Go.Proofs.YtfjaibaidpbppaaGreatDoor
open Go.RowKit

/-- A way from i to j whose steps between are below m. -/
inductive Way (ts : List TkP) (m : Nat) : Nat → Nat → Prop
  | one {i j : Nat} {t : TkP} : ts[i]? = some t → j ∈ t.after → Way ts m i j
  | more {i j k : Nat} {t : TkP} : ts[i]? = some t → j ∈ t.after → j < m → Way ts m j k → Way ts m i k
theorem Way.beh {ts : List TkP} {m i j : Nat} (h : Way ts m i j) : Beh ts i j := by
  induction h with
  | one h1 h2 => exact .one h1 h2
  | more h1 h2 _ _ ih => exact .more h1 h2 ih
theorem Beh.way {ts : List TkP} {n i j : Nat} (hl : ∀ t ∈ ts, ∀ a ∈ t.after, a < n) (h : Beh ts i j) : Way ts n i j := by
  induction h with
  | one h1 h2 => exact .one h1 h2
  | more h1 h2 _ ih => exact .more h1 h2 (hl _ (List.mem_of_getElem? h1) _ h2) ih
theorem Beh.trans {ts : List TkP} {i j k : Nat} (h : Beh ts i j) (h2 : Beh ts j k) : Beh ts i k := by
  induction h with
  | one a b => exact .more a b h2
  | more a b _ ih => exact .more a b (ih h2)
theorem Way.step {ts : List TkP} {m i j : Nat} (h : Way ts (m + 1) i j) : Way ts m i j ∨ (Way ts m i m ∧ Way ts m m j) := by
  induction h with
  | one h1 h2 => exact .inl (.one h1 h2)
  | @more i j k t h1 h2 h3 _ ih =>
    by_cases hj : j < m
    · rcases ih with h | ⟨h, h'⟩
      · exact .inl (.more h1 h2 hj h)
      · exact .inr ⟨.more h1 h2 hj h, h'⟩
    · obtain rfl : j = m := by omega
      rcases ih with h | ⟨_, h'⟩
      · exact .inr ⟨.one h1 h2, h⟩
      · exact .inr ⟨.one h1 h2, h'⟩
/-- Number i, k of the table is another one. -/
def setM (f : Nat → Nat → Bool) (i k : Nat) (b : Bool) : Nat → Nat → Bool := fun a c => if a = i ∧ c = k then b else f a c
/-- While m is gone through: all that is told is so; all ways below m are told, and those below m + 1 of the numbers ahead of (i, k). -/
structure WarM (ts : List TkP) (n m i k : Nat) (f : Nat → Nat → Bool) : Prop where
  so : ∀ a c, a < n → c < n → f a c = true → Beh ts a c
  old : ∀ a c, a < n → c < n → Way ts m a c → f a c = true
  new : ∀ a c, a < n → c < n → (a < i ∨ (a = i ∧ c < k)) → Way ts (m + 1) a c → f a c = true
theorem WarM.step {ts : List TkP} {n m i k : Nat} {f : Nat → Nat → Bool} (h : WarM ts n m i k f) (hm : m < n) (hi : i < n) (hk : k < n) : WarM ts n m i (k + 1) (setM f i k (f i k || (f i m && f m k))) := by
  have up : ∀ a c, f a c = true → setM f i k (f i k || (f i m && f m k)) a c = true := fun a c hf => by
    unfold setM
    split
    · rename_i e
      rw [e.1, e.2] at hf
      rw [hf, Bool.true_or]
    · exact hf
  refine ⟨fun a c ha hc hf => ?_, fun a c ha hc hw => up a c (h.old a c ha hc hw), fun a c ha hc hp hw => ?_⟩
  · unfold setM at hf
    split at hf
    · rename_i e
      rw [e.1, e.2]
      rcases Bool.or_eq_true_iff.1 hf with h1 | h1
      · exact h.so i k hi hk h1
      · have h2 := Bool.and_eq_true_iff.1 h1
        exact (h.so i m hi hm h2.1).trans (h.so m k hm hk h2.2)
    · exact h.so a c ha hc hf
  · by_cases e : a = i ∧ c = k
    · unfold setM
      rw [if_pos e]
      rw [e.1, e.2] at hw
      rcases hw.step with h1 | ⟨h1, h2⟩
      · rw [h.old i k hi hk h1, Bool.true_or]
      · rw [h.old i m hi hm h1, h.old m k hm hk h2]
        simp
    · refine up a c (h.new a c ha hc ?_ hw)
      omega
theorem WarM.row {ts : List TkP} {n m i : Nat} {f : Nat → Nat → Bool} (h : WarM ts n m i n f) : WarM ts n m (i + 1) 0 f :=
  ⟨h.so, h.old, fun a c ha hc hp hw => h.new a c ha hc (by omega) hw⟩
theorem WarM.all {ts : List TkP} {n m : Nat} {f : Nat → Nat → Bool} (h : WarM ts n m n 0 f) : WarM ts n (m + 1) 0 0 f :=
  ⟨h.so, fun a c ha hc hw => h.new a c ha hc (by omega) hw, fun a c _ _ hp _ => by omega⟩
/-- At the beginning: what is one step away. -/
def behB (ts : List TkP) (i k : Nat) : Bool := (ts.getD i noTk).after.contains k
theorem WarM.first {ts : List TkP} {n : Nat} {f : Nat → Nat → Bool} (hn : ts.length = n) (hf : ∀ a c, a < n → c < n → f a c = behB ts a c) : WarM ts n 0 0 0 f := by
  refine ⟨fun a c ha hc h => ?_, fun a c ha hc hw => ?_, fun a c _ _ hp _ => by omega⟩
  · rw [hf a c ha hc] at h
    unfold behB at h
    rw [List.getD_eq_getElem?_getD, List.getElem?_eq_getElem (by omega : a < ts.length)] at h
    exact .one (List.getElem?_eq_getElem (by omega)) (by simpa using h)
  · rw [hf a c ha hc]
    cases hw with
    | one h1 h2 =>
      unfold behB
      rw [List.getD_eq_getElem?_getD, h1]
      simpa using h2
    | more _ _ h3 _ => omega
/-- At the end it tells just that. -/
theorem WarM.tells {ts : List TkP} {n : Nat} {f : Nat → Nat → Bool} (h : WarM ts n n 0 0 f) (hl : ∀ t ∈ ts, ∀ a ∈ t.after, a < n) {a c : Nat} (ha : a < n) (hc : c < n) : f a c = true ↔ Beh ts a c :=
  ⟨h.so a c ha hc, fun hb => h.old a c ha hc (hb.way hl)⟩
theorem Beh.low {ts : List TkP} {i j : Nat} (h : Beh ts i j) : i < ts.length := by
  cases h with
  | one h1 _ => exact (List.getElem?_eq_some_iff.1 h1).1
  | more h1 _ _ => exact (List.getElem?_eq_some_iff.1 h1).1
end Go.Proofs.YtfjaibaidpbppaaGreatDoor

namespace Go.Proofs.YtfjaibaidpbppaaGreatDoor
open Go.RowKit

theorem RisL.snoc {m : List Int} {x : Int} (h : RisL m) (h0 : 0 ≤ x) (h1 : x < 12) (hl : ∀ y, m.getLast? = some y → y < x) : RisL (m ++ [x]) := by
  refine ⟨List.pairwise_append.2 ⟨h.1, by simp, fun a ha b hb => ?_⟩, fun z hz => ?_⟩
  · obtain rfl : b = x := by simpa using hb
    rcases List.eq_nil_or_concat m with rfl | ⟨i, y, rfl⟩
    · cases ha
    · have hy := hl y (by simp)
      rw [List.concat_eq_append] at ha h
      rcases List.mem_append.1 ha with h2 | h2
      · have := (List.pairwise_append.1 h.1).2.2 a h2 y (by simp)
        omega
      · obtain rfl : a = y := by simpa using h2
        exact hy
  · rcases List.mem_append.1 hz with h2 | h2
    · exact h.2 z h2
    · obtain rfl : z = x := by simpa using h2
      exact ⟨h0, h1⟩
theorem RisL.take {l : List Int} {k : Nat} {x : Int} (h : RisL (l.take k)) (hx : l[k]? = some x) (h0 : 0 ≤ x) (h1 : x < 12) (hl : ∀ j y, k = j + 1 → l[j]? = some y → y < x) : RisL (l.take (k + 1)) := by
  rw [List.take_add_one, hx]
  refine h.snoc h0 h1 fun y hy => ?_
  cases k with
  | zero => simp at hy
  | succ j =>
    have hlt := (List.getElem?_eq_some_iff.1 hx).1
    rw [List.getLast?_eq_getElem?, List.length_take, Nat.min_eq_left (by omega), Nat.add_sub_cancel, List.getElem?_take_of_lt (by omega)] at hy
    exact hl j y rfl hy
theorem rightV_no {l : List Int} (h : ¬ RisL l) : rightV l = false := by
  cases hr : rightV l with
  | false => rfl
  | true => exact absurd (rightV_iff.1 hr) h
theorem notRis {l : List Int} {j : Nat} {x y : Int} (hx : l[j]? = some x) (hy : l[j + 1]? = some y) (h : ¬ x < y) : ¬ RisL l := by
  intro hr
  obtain ⟨hj, e1⟩ := List.getElem?_eq_some_iff.1 hx
  obtain ⟨hj2, e2⟩ := List.getElem?_eq_some_iff.1 hy
  have := List.pairwise_iff_getElem.1 hr.1 j (j + 1) hj hj2 (Nat.lt_succ_self _)
  rw [e1, e2] at this
  exact h this
/-- The numbers of votes as they are written. -/
def votL (yes : List Int) (no : Bool) : List Int := (yes.length : Int) :: (yes ++ [if no then 1 else 0])
def votX (yes : List Int) (no : Bool) : ByteArray := intsX .empty (votL yes no)
theorem intsX_bl : ∀ (l : List Int) (t : ByteArray), bl (intsX t l) = bl t ++ l.flatMap numT
  | [], t => (List.append_nil _).symm
  | n :: l, t => by
    show bl (intsX (t ++ numX n) l) = _
    rw [intsX_bl l, bl_append, bl_numX, List.append_assoc, List.flatMap_cons]
theorem flat_front : ∀ {a b : List Int} {X Y : List UInt8}, a.length = b.length → a.flatMap numT ++ X = b.flatMap numT ++ Y → a = b ∧ X = Y
  | [], [], _, _, _, h => ⟨rfl, h⟩
  | [], _ :: _, _, _, h, _ => by cases h
  | _ :: _, [], _, _, h, _ => by cases h
  | x :: a, y :: b, X, Y, h, h2 => by
    rw [List.flatMap_cons, List.flatMap_cons, List.append_assoc, List.append_assoc] at h2
    obtain ⟨rfl, h3⟩ := numT_front h2
    obtain ⟨rfl, h4⟩ := flat_front (Nat.succ.inj h) h3
    exact ⟨rfl, h4⟩
theorem votX_front {y z : List Int} {n m : Bool} {T U : ByteArray} (h : votX y n ++ T = votX z m ++ U) : y = z ∧ n = m ∧ T = U := by
  have h1 := congrArg bl h
  unfold votX votL at h1
  rw [bl_append, bl_append, intsX_bl, intsX_bl, List.append_assoc, List.append_assoc, List.flatMap_cons, List.flatMap_cons, List.append_assoc, List.append_assoc] at h1
  obtain ⟨e0, h2⟩ := numT_front (List.append_cancel_left h1)
  have e0 : y.length = z.length := by omega
  obtain ⟨e1, h3⟩ := flat_front (by simp [e0]) h2
  obtain ⟨e2, e3⟩ := List.append_inj e1 e0
  refine ⟨e2, ?_, bl_inj h3⟩
  cases n <;> cases m <;> simp_all
theorem votX_self {y z : List Int} {n m : Bool} {T : ByteArray} (h : votX y n = votX z m ++ T) : y = z ∧ n = m ∧ T = .empty := by
  have h1 : votX y n ++ ByteArray.empty = votX z m ++ T := by rw [← h]; apply bl_inj; rw [bl_append]; exact List.append_nil _
  obtain ⟨e1, e2, e3⟩ := votX_front h1
  exact ⟨e1, e2, e3.symm⟩
theorem intsX_size : ∀ (l : List Int) (t : ByteArray), (∀ z ∈ l, -9223372036854775808 ≤ z ∧ z ≤ 9223372036854775807) → (intsX t l).size ≤ t.size + 21 * l.length
  | [], _, _ => Nat.le_refl _
  | n :: l, t, h => by
    have h1 := intsX_size l (t ++ numX n) (fun z hz => h z (List.mem_cons_of_mem _ hz))
    have h2 := numX_len (h n (List.mem_cons_self ..)).1 (h n (List.mem_cons_self ..)).2
    rw [size_cat] at h1
    show (intsX (t ++ numX n) l).size ≤ _
    rw [List.length_cons]
    omega
/-- What Read has read: votes that may be, and what is left; or it has stopped, and they are zero. -/
def VoSpec (S : ByteArray) (ys : List Int) (n b : Bool) (S' : ByteArray) : Prop := (b = true → ys = [] ∧ n = false) ∧ (b = false → rightV ys = true ∧ S = votX ys n ++ S') ∧ ∀ zs m T, rightV zs = true → S = votX zs m ++ T → b = false
theorem VoSpec.yes {y ys : List Int} {n m b : Bool} {S' : ByteArray} (h : VoSpec (votX y n) ys m b S') (hy : rightV y = true) : b = false ∧ ys = y ∧ m = n ∧ S' = .empty := by
  have hb := h.2.2 y n .empty hy (by apply bl_inj; rw [bl_append]; exact (List.append_nil _).symm)
  obtain ⟨e1, e2, e3⟩ := votX_self (h.2.1 hb).2
  exact ⟨hb, e1.symm, e2.symm, e3⟩
theorem VoSpec.no {y ys : List Int} {n m b : Bool} {S' : ByteArray} (h : VoSpec (votX y n) ys m b S') (hy : rightV y = false) : b = true ∧ ys = [] ∧ m = false := by
  cases b with
  | true => exact ⟨rfl, h.1 rfl⟩
  | false =>
    obtain ⟨h1, h2⟩ := h.2.1 rfl
    rw [(votX_self h2).1, h1] at hy
    cases hy
theorem VoSpec.len {S : ByteArray} {ys : List Int} {m b : Bool} {S' : ByteArray} (h : VoSpec S ys m b S') : ys.length ≤ 12 := by
  cases b with
  | true => rw [(h.1 rfl).1]; exact Nat.zero_le _
  | false => exact (rightV_iff.1 (h.2.1 rfl).1).len
/-- What the law asks of the program's Write and Read. -/
structure GtRW : Prop where
  write : ∀ {w W : World} {m P : Nat} {T : ByteArray} {A : Option Addr} {c : Nat} {yes : List Int} (no : Bool), WrB w W m P T → Below w.heap.size w W → m ≤ W.heap.size → IntsC w A c yes → (∀ z ∈ yes, -9223372036854775808 ≤ z ∧ z ≤ 9223372036854775807) → yes.length ≤ 1000 → T.size ≤ 1000000 →
    Calls Tryz.prog 73 #[.pointer (some ⟨P, 0, none⟩), .agg #[.slice A yes.length c, .bool no]] W (WroteB w W m P (intsX T (votL yes no)))
  read : ∀ {w : World} {R : Nat} {S : ByteArray}, RdAt w R S false → VarsAt w → S.size ≤ 1000000 →
    Calls Tryz.prog 51 #[.pointer (some ⟨R, 0, none⟩)] w fun e w' => ∃ B d ys n b S', e = .returned (.agg #[.slice B ys.length d, .bool n]) ∧ IntsC w' B d ys ∧ RdAt w' R S' b ∧ Only1 R w w' ∧ VoSpec S ys n b S'
end Go.Proofs.YtfjaibaidpbppaaGreatDoor

namespace Go.Proofs.YtfjaibaidpbppaaGreatDoor
open Go.RowKit

section
variable {w : World}
theorem results_cell_tmp {P : Program} {fn : Func} {p u : Tmp} {ty : TypeId} (h : fn.results = #[.cell p ty, .tmp u]) (tmps : Array Value) (w : World) (g : Nat) (t : TypeId) (cs : Array Value) (fr : Nat × Nat) (d : TypeDesc)
    (hp : tmps.getD p undef = .pointer (some ⟨g, 0, none⟩)) (hg : w.heap[g]? = some (.cells cs t fr))
    (hu : P.underlying ty = some d) (hd : (match d with | .struct _ | .array _ _ => true | _ => false) = true) (hi : (P.info? ty).map (·.size) = some cs.size) :
    (results fn tmps).run P w = .ok (.tuple #[.agg cs, tmps.getD u undef]) w := by
  have hp' : tmps[p]?.getD undef = .pointer (some ⟨g, 0, none⟩) := by simpa using hp
  simp [results, h, hp', asAddr, run_loadVar_row w g t ty cs fr d hg hu hd hi]
set_option maxHeartbeats 4000000 in
set_option maxRecDepth 100000 in
theorem lmiss_is (t : TrP) (a r : Int) (hs : SmallT t) (ha : smI a) : Calls Tryz.prog 43 #[tryV t, .int .i64 a, .int .i64 r] w fun e w' => e = .returned (tryV (missP t a r)) ∧ Below w.heap.size w w' := by
  have hm := hs.ms
  unfold smI at hm ha
  obtain ⟨hm1, hm2⟩ := hm
  obtain ⟨ha1, ha2⟩ := ha
  clear hs
  by_cases h2 : t.st = 2
  · by_cases hr : r < t.ms + 1
    · have e : missP t a r = ⟨4, 0, t.ms + 1, 0, 0, 0⟩ := by unfold missP; rw [if_neg (by simp [h2]), if_pos hr]
      rw [e]
      have n1 : (t.st != 2) = false := by rw [bne_eq_false_iff_eq]; exact h2
      clear h2 e
      obtain ⟨m1, m2, b1⟩ := two_try w t
      go_enter Tryz.func43, Tryz.ntmps43
      go_upto_region 1 with fail
      generalize hW0 : ((w.alloc (.cells (tryA t) 73)).alloc (.cells z6 73)) = W0 at *
      clear hW0
      obtain ⟨⟨x0, x1, x2, x3, x4, x5⟩, g0, g1, g2, g3, g4, g5⟩ := cells6 m1
      obtain ⟨⟨y0, y1, y2, y3, y4, y5⟩, f0, f1, f2, f3, f4, f5⟩ := cells6 m2
      have M1 := Lib.hid m1
      have M2 := Lib.hid m2
      have B1 := Lib.hid b1
      clear m1 m2 b1
      go_wp2_with fail
      exact bodyPost_ret (results_cell_row (fn := Tryz.f43) rfl _ _ (w.heap.size + 1) 73 #[.int .i64 4, .int .i64 0, .int .i64 (t.ms + 1), .int .i64 0, .int .i64 0, .int .i64 0] (0, 0) _ rfl (six_row M2.out) Tryz.underlying73 rfl info_tryL) rfl ⟨rfl, six_below B1.out (by omega)⟩
    · have e : missP t a r = ⟨1, a + (t.ms + 1), t.ms + 1, 0, 0, 0⟩ := by unfold missP; rw [if_neg (by simp [h2]), if_neg hr]
      rw [e]
      have n1 : (t.st != 2) = false := by rw [bne_eq_false_iff_eq]; exact h2
      clear h2 e
      obtain ⟨m1, m2, b1⟩ := two_try w t
      go_enter Tryz.func43, Tryz.ntmps43
      go_upto_region 1 with fail
      generalize hW0 : ((w.alloc (.cells (tryA t) 73)).alloc (.cells z6 73)) = W0 at *
      clear hW0
      obtain ⟨⟨x0, x1, x2, x3, x4, x5⟩, g0, g1, g2, g3, g4, g5⟩ := cells6 m1
      obtain ⟨⟨y0, y1, y2, y3, y4, y5⟩, f0, f1, f2, f3, f4, f5⟩ := cells6 m2
      have M1 := Lib.hid m1
      have M2 := Lib.hid m2
      have B1 := Lib.hid b1
      clear m1 m2 b1
      go_wp2_with fail
      exact bodyPost_ret (results_cell_row (fn := Tryz.f43) rfl _ _ (w.heap.size + 1) 73 #[.int .i64 1, .int .i64 (a + (t.ms + 1)), .int .i64 (t.ms + 1), .int .i64 0, .int .i64 0, .int .i64 0] (0, 0) _ rfl (six_row M2.out) Tryz.underlying73 rfl info_tryL) rfl ⟨rfl, six_below B1.out (by omega)⟩
  · have e : missP t a r = t := by unfold missP; rw [if_pos h2]
    rw [e]
    have n1 : (t.st != 2) = true := by rw [bne_iff_ne]; exact h2
    clear h2 e
    obtain ⟨m1, m2, b1⟩ := two_try w t
    go_enter Tryz.func43, Tryz.ntmps43
    go_upto_region 1 with fail
    generalize hW0 : ((w.alloc (.cells (tryA t) 73)).alloc (.cells z6 73)) = W0 at *
    clear hW0
    obtain ⟨⟨x0, x1, x2, x3, x4, x5⟩, g0, g1, g2, g3, g4, g5⟩ := cells6 m1
    obtain ⟨⟨y0, y1, y2, y3, y4, y5⟩, f0, f1, f2, f3, f4, f5⟩ := cells6 m2
    have M1 := Lib.hid m1
    have M2 := Lib.hid m2
    have B1 := Lib.hid b1
    clear m1 m2 b1
    go_wp2_with fail
    exact bodyPost_ret (results_cell_row (fn := Tryz.f43) rfl _ _ (w.heap.size + 1) 73 (tryA t) (0, 0) _ rfl (six_row M2.out) Tryz.underlying73 rfl info_tryL) rfl ⟨rfl, six_below B1.out (by omega)⟩
set_option maxHeartbeats 4000000 in
set_option maxRecDepth 100000 in
theorem lopen_is (t : TrP) (now : Int) : Calls Tryz.prog 69 #[tryV t, .int .i64 now] w fun e w' => e = .returned (tryV (openP t now)) ∧ Below w.heap.size w w' := by
  by_cases h0 : t.st = 0
  · have e : openP t now = ⟨1, now, t.ms, t.wk, t.ls, t.un⟩ := by unfold openP; rw [if_pos h0]
    rw [e]
    have n1 : (t.st != 0) = false := by rw [bne_eq_false_iff_eq]; exact h0
    clear h0 e
    obtain ⟨m1, m2, b1⟩ := two_try w t
    go_enter Tryz.func69, Tryz.ntmps69
    go_upto_region 1 with fail
    generalize hW0 : ((w.alloc (.cells (tryA t) 73)).alloc (.cells z6 73)) = W0 at *
    clear hW0
    obtain ⟨⟨x0, x1, x2, x3, x4, x5⟩, g0, g1, g2, g3, g4, g5⟩ := cells6 m1
    obtain ⟨⟨y0, y1, y2, y3, y4, y5⟩, f0, f1, f2, f3, f4, f5⟩ := cells6 m2
    have M1 := Lib.hid m1
    have M2 := Lib.hid m2
    have B1 := Lib.hid b1
    clear m1 m2 b1
    have N2 := Lib.hid (((row_keep2 (i := 1) (v := .int .i64 now) (show w.heap.size + 1 ≠ w.heap.size by omega)).trans (row_keep2 (i := 0) (v := .int .i64 1) (show w.heap.size + 1 ≠ w.heap.size by omega))).trans M2.out)
    have B2 := Lib.hid ((B1.out.setCell (p := ⟨w.heap.size, 0, none⟩) (Nat.le_refl _) (.int .i64 1)).setCell (p := ⟨w.heap.size, 1, none⟩) (Nat.le_refl _) (.int .i64 now))
    go_wp2_with fail
    exact bodyPost_ret (results_cell_row (fn := Tryz.f69) rfl _ _ (w.heap.size + 1) 73 #[.int .i64 1, .int .i64 now, .int .i64 t.ms, .int .i64 t.wk, .int .i64 t.ls, .int .i64 t.un] (0, 0) _ rfl (six_row N2.out) Tryz.underlying73 rfl info_tryL) rfl ⟨rfl, six_below B2.out (by omega)⟩
  · have e : openP t now = t := by unfold openP; rw [if_neg h0]
    rw [e]
    have n1 : (t.st != 0) = true := by rw [bne_iff_ne]; exact h0
    clear h0 e
    obtain ⟨m1, m2, b1⟩ := two_try w t
    go_enter Tryz.func69, Tryz.ntmps69
    go_upto_region 1 with fail
    generalize hW0 : ((w.alloc (.cells (tryA t) 73)).alloc (.cells z6 73)) = W0 at *
    clear hW0
    obtain ⟨⟨x0, x1, x2, x3, x4, x5⟩, g0, g1, g2, g3, g4, g5⟩ := cells6 m1
    obtain ⟨⟨y0, y1, y2, y3, y4, y5⟩, f0, f1, f2, f3, f4, f5⟩ := cells6 m2
    have M1 := Lib.hid m1
    have M2 := Lib.hid m2
    have B1 := Lib.hid b1
    clear m1 m2 b1
    go_wp2_with fail
    exact bodyPost_ret (results_cell_row (fn := Tryz.f69) rfl _ _ (w.heap.size + 1) 73 (tryA t) (0, 0) _ rfl (six_row M2.out) Tryz.underlying73 rfl info_tryL) rfl ⟨rfl, six_below B1.out (by omega)⟩
set_option maxHeartbeats 4000000 in
set_option maxRecDepth 100000 in
theorem lbeat_is (t : TrP) (now tm : Int) (hn : smI now) (ht : smI tm) : Calls Tryz.prog 56 #[tryV t, .int .i64 now, .int .i64 tm] w fun e w' => e = .returned (tryV (beatP t now tm)) ∧ Below w.heap.size w w' := by
  unfold smI at hn ht
  obtain ⟨hn1, hn2⟩ := hn
  obtain ⟨ht1, ht2⟩ := ht
  by_cases h0 : t.st = 2
  · have e : beatP t now tm = ⟨t.st, t.sn, t.ms, t.wk, t.ls, now + tm⟩ := by unfold beatP; rw [if_pos h0]
    rw [e]
    have n1 : (t.st == 2) = true := beq_iff_eq.2 h0
    clear h0 e
    obtain ⟨m1, m2, b1⟩ := two_try w t
    go_enter Tryz.func56, Tryz.ntmps56
    go_upto_region 1 with fail
    generalize hW0 : ((w.alloc (.cells (tryA t) 73)).alloc (.cells z6 73)) = W0 at *
    clear hW0
    obtain ⟨⟨x0, x1, x2, x3, x4, x5⟩, g0, g1, g2, g3, g4, g5⟩ := cells6 m1
    obtain ⟨⟨y0, y1, y2, y3, y4, y5⟩, f0, f1, f2, f3, f4, f5⟩ := cells6 m2
    have M1 := Lib.hid m1
    have M2 := Lib.hid m2
    have B1 := Lib.hid b1
    clear m1 m2 b1
    have N2 := Lib.hid ((row_keep2 (i := 5) (v := .int .i64 (now + tm)) (show w.heap.size + 1 ≠ w.heap.size by omega)).trans M2.out)
    have B2 := Lib.hid (B1.out.setCell (p := ⟨w.heap.size, 5, none⟩) (Nat.le_refl _) (.int .i64 (now + tm)))
    go_wp2_with fail
    exact bodyPost_ret (results_cell_row (fn := Tryz.f56) rfl _ _ (w.heap.size + 1) 73 #[.int .i64 t.st, .int .i64 t.sn, .int .i64 t.ms, .int .i64 t.wk, .int .i64 t.ls, .int .i64 (now + tm)] (0, 0) _ rfl (six_row N2.out) Tryz.underlying73 rfl info_tryL) rfl ⟨rfl, six_below B2.out (by omega)⟩
  · have e : beatP t now tm = t := by unfold beatP; rw [if_neg h0]
    rw [e]
    have n1 : (t.st == 2) = false := beq_eq_false_iff_ne.2 h0
    clear h0 e
    obtain ⟨m1, m2, b1⟩ := two_try w t
    go_enter Tryz.func56, Tryz.ntmps56
    go_upto_region 1 with fail
    generalize hW0 : ((w.alloc (.cells (tryA t) 73)).alloc (.cells z6 73)) = W0 at *
    clear hW0
    obtain ⟨⟨x0, x1, x2, x3, x4, x5⟩, g0, g1, g2, g3, g4, g5⟩ := cells6 m1
    obtain ⟨⟨y0, y1, y2, y3, y4, y5⟩, f0, f1, f2, f3, f4, f5⟩ := cells6 m2
    have M1 := Lib.hid m1
    have M2 := Lib.hid m2
    have B1 := Lib.hid b1
    clear m1 m2 b1
    go_wp2_with fail
    exact bodyPost_ret (results_cell_row (fn := Tryz.f56) rfl _ _ (w.heap.size + 1) 73 (tryA t) (0, 0) _ rfl (six_row M2.out) Tryz.underlying73 rfl info_tryL) rfl ⟨rfl, six_below B1.out (by omega)⟩
set_option maxHeartbeats 4000000 in
set_option maxRecDepth 100000 in
theorem ldone_is (t : TrP) : Calls Tryz.prog 70 #[tryV t] w fun e w' => e = .returned (tryV (doneP t)) ∧ Below w.heap.size w w' := by
  by_cases h1 : t.st = 1
  · have e : doneP t = ⟨3, 0, t.ms, 0, 0, 0⟩ := by unfold doneP; rw [if_pos (.inl h1)]
    rw [e]
    have n1 : (t.st != 1) = false := by rw [bne_eq_false_iff_eq]; exact h1
    have n2 : (t.st != 2) = true := by rw [bne_iff_ne]; omega
    clear h1 e
    obtain ⟨m1, m2, b1⟩ := two_try w t
    go_enter Tryz.func70, Tryz.ntmps70
    go_upto_region 1 with fail
    generalize hW0 : ((w.alloc (.cells (tryA t) 73)).alloc (.cells z6 73)) = W0 at *
    clear hW0
    obtain ⟨⟨x0, x1, x2, x3, x4, x5⟩, g0, g1, g2, g3, g4, g5⟩ := cells6 m1
    obtain ⟨⟨y0, y1, y2, y3, y4, y5⟩, f0, f1, f2, f3, f4, f5⟩ := cells6 m2
    have M1 := Lib.hid m1
    have M2 := Lib.hid m2
    have B1 := Lib.hid b1
    clear m1 m2 b1
    go_wp2_with fail
    exact bodyPost_ret (results_cell_row (fn := Tryz.f70) rfl _ _ (w.heap.size + 1) 73 #[.int .i64 3, .int .i64 0, .int .i64 t.ms, .int .i64 0, .int .i64 0, .int .i64 0] (0, 0) _ rfl (six_row M2.out) Tryz.underlying73 rfl info_tryL) rfl ⟨rfl, six_below B1.out (by omega)⟩
  · by_cases h2 : t.st = 2
    · have e : doneP t = ⟨3, 0, t.ms, 0, 0, 0⟩ := by unfold doneP; rw [if_pos (.inr h2)]
      rw [e]
      have n2 : (t.st != 2) = false := by rw [bne_eq_false_iff_eq]; exact h2
      clear h1 h2 e
      obtain ⟨m1, m2, b1⟩ := two_try w t
      go_enter Tryz.func70, Tryz.ntmps70
      go_upto_region 1 with fail
      generalize hW0 : ((w.alloc (.cells (tryA t) 73)).alloc (.cells z6 73)) = W0 at *
      clear hW0
      obtain ⟨⟨x0, x1, x2, x3, x4, x5⟩, g0, g1, g2, g3, g4, g5⟩ := cells6 m1
      obtain ⟨⟨y0, y1, y2, y3, y4, y5⟩, f0, f1, f2, f3, f4, f5⟩ := cells6 m2
      have M1 := Lib.hid m1
      have M2 := Lib.hid m2
      have B1 := Lib.hid b1
      clear m1 m2 b1
      go_wp2_with fail
      exact bodyPost_ret (results_cell_row (fn := Tryz.f70) rfl _ _ (w.heap.size + 1) 73 #[.int .i64 3, .int .i64 0, .int .i64 t.ms, .int .i64 0, .int .i64 0, .int .i64 0] (0, 0) _ rfl (six_row M2.out) Tryz.underlying73 rfl info_tryL) rfl ⟨rfl, six_below B1.out (by omega)⟩
    · have e : doneP t = t := by unfold doneP; rw [if_neg (by simp [h1, h2])]
      rw [e]
      have n1 : (t.st != 1) = true := by rw [bne_iff_ne]; exact h1
      have n2 : (t.st != 2) = true := by rw [bne_iff_ne]; exact h2
      clear h1 h2 e
      obtain ⟨m1, m2, b1⟩ := two_try w t
      go_enter Tryz.func70, Tryz.ntmps70
      go_upto_region 1 with fail
      generalize hW0 : ((w.alloc (.cells (tryA t) 73)).alloc (.cells z6 73)) = W0 at *
      clear hW0
      obtain ⟨⟨x0, x1, x2, x3, x4, x5⟩, g0, g1, g2, g3, g4, g5⟩ := cells6 m1
      obtain ⟨⟨y0, y1, y2, y3, y4, y5⟩, f0, f1, f2, f3, f4, f5⟩ := cells6 m2
      have M1 := Lib.hid m1
      have M2 := Lib.hid m2
      have B1 := Lib.hid b1
      clear m1 m2 b1
      go_wp2_with fail
      exact bodyPost_ret (results_cell_row (fn := Tryz.f70) rfl _ _ (w.heap.size + 1) 73 (tryA t) (0, 0) _ rfl (six_row M2.out) Tryz.underlying73 rfl info_tryL) rfl ⟨rfl, six_below B1.out (by omega)⟩
set_option maxHeartbeats 4000000 in
set_option maxRecDepth 100000 in
theorem lsettle_is (t : TrP) (a r : Int) (hs : SmallT t) : Calls Tryz.prog 37 #[tryV t, .int .i64 a, .int .i64 r] w fun e w' => e = .returned (tryV (settleP t a r)) ∧ Below w.heap.size w w' := by
  by_cases h1 : t.st = 2
  · by_cases h2 : t.un ≤ a
    · have e : settleP t a r = missP t t.un r := by unfold settleP; rw [if_pos ⟨h1, h2⟩]
      rw [e]
      have n1 : (t.st != 2) = false := by rw [bne_eq_false_iff_eq]; exact h1
      have HM := Lib.hid (fun W : World => lmiss_is (w := W) t t.un r hs hs.un)
      obtain ⟨z, hz⟩ : ∃ z, z = missP t t.un r := ⟨_, rfl⟩
      rw [← hz] at HM ⊢
      clear h1 e hz hs
      obtain ⟨m1, m2, b1⟩ := two_try w t
      go_enter Tryz.func37, Tryz.ntmps37
      go_upto_region 1 with fail
      generalize hW0 : ((w.alloc (.cells (tryA t) 73)).alloc (.cells z6 73)) = W0 at *
      clear hW0
      obtain ⟨⟨x0, x1, x2, x3, x4, x5⟩, g0, g1, g2, g3, g4, g5⟩ := cells6 m1
      obtain ⟨⟨y0, y1, y2, y3, y4, y5⟩, f0, f1, f2, f3, f4, f5⟩ := cells6 m2
      have M1 := Lib.hid m1
      have M2 := Lib.hid m2
      have B1 := Lib.hid b1
      clear m1 m2 b1
      go_wp2_with fail
      refine (HM.out _).mono ?_
      rintro e w2 ⟨rfl, hb2⟩
      have N2 := Lib.hid (later_at hb2 M2.out)
      have B2 := Lib.hid (below_step B1.out hb2)
      clear hb2 x0 x1 x2 x3 x4 x5 y0 y1 y2 y3 y4 y5 g0 g1 g2 g3 g4 g5 f0 f1 f2 f3 f4 f5
      obtain ⟨⟨y0, y1, y2, y3, y4, y5⟩, f0, f1, f2, f3, f4, f5⟩ := cells6 N2.out
      go_wp2_with fail
      exact bodyPost_ret (results_cell_row (fn := Tryz.f37) rfl _ _ (w.heap.size + 1) 73 (tryA z) (0, 0) _ rfl (six_row N2.out) Tryz.underlying73 rfl info_tryL) rfl ⟨rfl, six_below B2.out (by omega)⟩
    · have e : settleP t a r = t := by unfold settleP; rw [if_neg (fun h => h2 h.2)]
      rw [e]
      have n1 : (t.st != 2) = false := by rw [bne_eq_false_iff_eq]; exact h1
      clear h1 e hs
      obtain ⟨m1, m2, b1⟩ := two_try w t
      go_enter Tryz.func37, Tryz.ntmps37
      go_upto_region 1 with fail
      generalize hW0 : ((w.alloc (.cells (tryA t) 73)).alloc (.cells z6 73)) = W0 at *
      clear hW0
      obtain ⟨⟨x0, x1, x2, x3, x4, x5⟩, g0, g1, g2, g3, g4, g5⟩ := cells6 m1
      obtain ⟨⟨y0, y1, y2, y3, y4, y5⟩, f0, f1, f2, f3, f4, f5⟩ := cells6 m2
      have M1 := Lib.hid m1
      have M2 := Lib.hid m2
      have B1 := Lib.hid b1
      clear m1 m2 b1
      go_wp2_with fail
      exact bodyPost_ret (results_cell_row (fn := Tryz.f37) rfl _ _ (w.heap.size + 1) 73 (tryA t) (0, 0) _ rfl (six_row M2.out) Tryz.underlying73 rfl info_tryL) rfl ⟨rfl, six_below B1.out (by omega)⟩
  · have e : settleP t a r = t := by unfold settleP; rw [if_neg (fun h => h1 h.1)]
    rw [e]
    have n1 : (t.st != 2) = true := by rw [bne_iff_ne]; exact h1
    clear h1 e hs
    obtain ⟨m1, m2, b1⟩ := two_try w t
    go_enter Tryz.func37, Tryz.ntmps37
    go_upto_region 1 with fail
    generalize hW0 : ((w.alloc (.cells (tryA t) 73)).alloc (.cells z6 73)) = W0 at *
    clear hW0
    obtain ⟨⟨x0, x1, x2, x3, x4, x5⟩, g0, g1, g2, g3, g4, g5⟩ := cells6 m1
    obtain ⟨⟨y0, y1, y2, y3, y4, y5⟩, f0, f1, f2, f3, f4, f5⟩ := cells6 m2
    have M1 := Lib.hid m1
    have M2 := Lib.hid m2
    have B1 := Lib.hid b1
    clear m1 m2 b1
    go_wp2_with fail
    exact bodyPost_ret (results_cell_row (fn := Tryz.f37) rfl _ _ (w.heap.size + 1) 73 (tryA t) (0, 0) _ rfl (six_row M2.out) Tryz.underlying73 rfl info_tryL) rfl ⟨rfl, six_below B1.out (by omega)⟩
set_option maxHeartbeats 4000000 in
set_option maxRecDepth 100000 in
theorem ltake_is (t : TrP) (now wk ls tm : Int) (hn : smI now) (ht : smI tm) : Calls Tryz.prog 41 #[tryV t, .int .i64 now, .int .i64 wk, .int .i64 ls, .int .i64 tm] w fun e w' => e = .returned (.tuple #[tryV (takeP t now wk ls tm).1, .int .i64 (takeP t now wk ls tm).2]) ∧ Below w.heap.size w w' := by
  unfold smI at hn ht
  obtain ⟨hn1, hn2⟩ := hn
  obtain ⟨ht1, ht2⟩ := ht
  by_cases h1 : t.st = 1
  · by_cases h2 : now < t.sn
    · have e : takeP t now wk ls tm = (noTr, 12) := by unfold takeP; rw [if_pos (.inr h2)]
      rw [e]
      have n1 : (t.st != 1) = false := by rw [bne_eq_false_iff_eq]; exact h1
      clear h1 e
      obtain ⟨m1, m2, b1⟩ := two_try w t
      go_enter Tryz.func41, Tryz.ntmps41
      go_upto_region 1 with fail
      generalize hW0 : ((w.alloc (.cells (tryA t) 73)).alloc (.cells z6 73)) = W0 at *
      clear hW0
      obtain ⟨⟨x0, x1, x2, x3, x4, x5⟩, g0, g1, g2, g3, g4, g5⟩ := cells6 m1
      obtain ⟨⟨y0, y1, y2, y3, y4, y5⟩, f0, f1, f2, f3, f4, f5⟩ := cells6 m2
      have M1 := Lib.hid m1
      have M2 := Lib.hid m2
      have B1 := Lib.hid b1
      clear m1 m2 b1
      go_wp2_with fail
      exact bodyPost_ret (results_cell_tmp (fn := Tryz.f41) rfl _ _ (w.heap.size + 1) 73 z6 (0, 0) _ rfl (six_row M2.out) Tryz.underlying73 rfl info_tryL) rfl ⟨rfl, six_below B1.out (by omega)⟩
    · have e : takeP t now wk ls tm = (⟨2, 0, t.ms, wk, ls, now + tm⟩, 0) := by unfold takeP; rw [if_neg (by simp [h1]; omega)]
      rw [e]
      have n1 : (t.st != 1) = false := by rw [bne_eq_false_iff_eq]; exact h1
      clear h1 e
      obtain ⟨m1, m2, b1⟩ := two_try w t
      go_enter Tryz.func41, Tryz.ntmps41
      go_upto_region 1 with fail
      generalize hW0 : ((w.alloc (.cells (tryA t) 73)).alloc (.cells z6 73)) = W0 at *
      clear hW0
      obtain ⟨⟨x0, x1, x2, x3, x4, x5⟩, g0, g1, g2, g3, g4, g5⟩ := cells6 m1
      obtain ⟨⟨y0, y1, y2, y3, y4, y5⟩, f0, f1, f2, f3, f4, f5⟩ := cells6 m2
      have M1 := Lib.hid m1
      have M2 := Lib.hid m2
      have B1 := Lib.hid b1
      clear m1 m2 b1
      go_wp2_with fail
      exact bodyPost_ret (results_cell_tmp (fn := Tryz.f41) rfl _ _ (w.heap.size + 1) 73 #[.int .i64 2, .int .i64 0, .int .i64 t.ms, .int .i64 wk, .int .i64 ls, .int .i64 (now + tm)] (0, 0) _ rfl (six_row M2.out) Tryz.underlying73 rfl info_tryL) rfl ⟨rfl, six_below B1.out (by omega)⟩
  · have e : takeP t now wk ls tm = (noTr, 12) := by unfold takeP; rw [if_pos (.inl h1)]
    rw [e]
    have n1 : (t.st != 1) = true := by rw [bne_iff_ne]; exact h1
    clear h1 e
    obtain ⟨m1, m2, b1⟩ := two_try w t
    go_enter Tryz.func41, Tryz.ntmps41
    go_upto_region 1 with fail
    generalize hW0 : ((w.alloc (.cells (tryA t) 73)).alloc (.cells z6 73)) = W0 at *
    clear hW0
    obtain ⟨⟨x0, x1, x2, x3, x4, x5⟩, g0, g1, g2, g3, g4, g5⟩ := cells6 m1
    obtain ⟨⟨y0, y1, y2, y3, y4, y5⟩, f0, f1, f2, f3, f4, f5⟩ := cells6 m2
    have M1 := Lib.hid m1
    have M2 := Lib.hid m2
    have B1 := Lib.hid b1
    clear m1 m2 b1
    go_wp2_with fail
    exact bodyPost_ret (results_cell_tmp (fn := Tryz.f41) rfl _ _ (w.heap.size + 1) 73 z6 (0, 0) _ rfl (six_row M2.out) Tryz.underlying73 rfl info_tryL) rfl ⟨rfl, six_below B1.out (by omega)⟩
set_option maxHeartbeats 4000000 in
set_option maxRecDepth 100000 in
theorem lholds_is (t : TrP) (now wk ls : Int) : Calls Tryz.prog 53 #[tryV t, .int .i64 now, .int .i64 wk, .int .i64 ls] w fun e w' => e = .returned (.bool (holdsP t now wk ls)) ∧ Below w.heap.size w w' := by
  obtain ⟨b1, n1⟩ : ∃ b, (t.st == 2) = b := ⟨_, rfl⟩
  obtain ⟨b2, n2⟩ : ∃ b, (t.wk == wk) = b := ⟨_, rfl⟩
  obtain ⟨b3, n3⟩ : ∃ b, (t.ls == ls) = b := ⟨_, rfl⟩
  have hv : holdsP t now wk ls = (b1 && b2 && b3 && decide (now < t.un)) := by rw [← n1, ← n2, ← n3]; rfl
  rw [hv]
  clear hv
  have m1 := made_at w (.cells (tryA t) 73)
  have HB := Lib.hid ((Below.refl w.heap.size w).alloc (Nat.le_refl _) (.cells (tryA t) 73))
  obtain ⟨⟨x0, x1, x2, x3, x4, x5⟩, _⟩ := cells6 m1
  clear m1
  cases b1 with
  | false =>
    go_enter Tryz.func53, Tryz.ntmps53
    go_wp2_with fail
    go_ret
    exact ⟨by first | rfl | simp, HB.out⟩
  | true =>
  cases b2 with
  | false =>
    go_enter Tryz.func53, Tryz.ntmps53
    go_wp2_with fail
    go_ret
    exact ⟨by first | rfl | simp, HB.out⟩
  | true =>
  cases b3 with
  | false =>
    go_enter Tryz.func53, Tryz.ntmps53
    go_wp2_with fail
    go_ret
    exact ⟨by first | rfl | simp, HB.out⟩
  | true =>
    go_enter Tryz.func53, Tryz.ntmps53
    go_wp2_with fail
    go_ret
    exact ⟨by first | rfl | simp, HB.out⟩
end
end Go.Proofs.YtfjaibaidpbppaaGreatDoor
