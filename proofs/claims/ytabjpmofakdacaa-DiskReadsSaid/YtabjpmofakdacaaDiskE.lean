/-
  What the document's disk (package lockageref03) does where it is written. No conditions but how it lies in memory, and that there have been at most a million writes.
-/
import Derived.Test.YtabjpmofakdacaaDiskD
import Derived.OwnWalk
namespace Go.Proofs.Ytabjpmofakdacaa
open Go.RowKit

/-- A write is put into the cache. -/
def putS (st : Dk) (at_ : Int) (s : ByteArray) : Dk := { st with cache := st.cache ++ [(at_, s)], writes := st.writes + 1, armed := if 0 < st.armed then st.armed - 1 else st.armed }
def outB (st : Dk) (at_ : Int) : Bool := decide (at_ < 0) || decide ((st.kept.length : Int) ≤ at_)
/-- What Write answers, and leaves. -/
def writeE (st : Dk) (at_ : Int) (s : ByteArray) : Int := if st.off then 5 else if outB st at_ then 2 else if s.size ≠ 64 then 1 else if st.armed = 1 then 5 else 0
def writeS (st : Dk) (at_ : Int) (s : ByteArray) : Dk := if st.off then st else if outB st at_ then st else if s.size ≠ 64 then st else if st.armed = 1 then crashS (putS st at_ s) st.bits else putS st at_ s

theorem info_wr : (Try.prog.info? 69).map (fun i => (i.zero, i.size, i.bytes)) = some (some (.agg #[.int .i64 0, .string ⟨#[]⟩]), 2, 24) := by kernel_rfl

theorem wrCells_snoc (c : List (Int × ByteArray)) (a : Int) (s : ByteArray) : wrCells (c ++ [(a, s)]) = wrCells c ++ [.int .i64 a, .string s] := by simp [wrCells]
theorem two_cells_new (w : World) (x y : Value) (t : TypeId) : ∀ j u, [x, y][j]? = some u → (w.alloc (.cells #[x, y] t)).cell? ((⟨w.heap.size, 0, none⟩ : Addr).add j) = some u := by
  intro j u hu
  rcases j with _ | _ | j
  · obtain rfl : x = u := by simpa using hu
    simp [go_sem, Addr.add]
  · obtain rfl : y = u := by simpa using hu
    simp [go_sem, Addr.add]
  · simp at hu

section
variable {base R : Nat} {st : Dk} {w : World}

theorem own_ne_blk {w : World} {base : Nat} {e t : TypeId} {size n g : Nat} {v : Value} {xs : List Value} {cs : Array Value} (h : w.ownsRow base e size v n xs) (hg : w.heap[g]? = some (.cells cs t (0, 0))) (hne : e ≠ t) : some g ≠ v.ownBlock := by
  rcases h.2 with ⟨rfl, _⟩ | ⟨q, cap, cur, rfl, _, hq, _⟩
  · simp [Value.ownBlock]
  · intro he
    have : g = q := by simpa [Value.ownBlock] using he
    subst this
    rw [hg] at hq
    injection hq with hq
    injection hq with _ ht
    exact hne ht.symm
theorem own_ne_own {w : World} {b1 b2 : Nat} {e1 e2 : TypeId} {s1 s2 n1 n2 : Nat} {v1 v2 : Value} {x1 x2 : List Value} (h1 : w.ownsRow b1 e1 s1 v1 n1 x1) (h2 : w.ownsRow b2 e2 s2 v2 n2 x2) (hne : e1 ≠ e2) : v1.ownBlock = none ∨ v1.ownBlock ≠ v2.ownBlock := by
  rcases h1.2 with ⟨rfl, _⟩ | ⟨q, cap, cur, rfl, _, hq, _⟩
  · exact .inl rfl
  · exact .inr (own_ne_blk h2 hq (Ne.symm hne))
theorem OnlyT.grown {base : Nat} {T : TypeId → Bool} {w a b : World} {row : Option Nat} (h : OnlyT base T w a) (hg : a.grownBy b row) (hr : ∀ g, row = some g → base ≤ g ∧ ∃ cs t m, a.heap[g]? = some (.cells cs t m) ∧ T t = true) : OnlyT base T w b :=
  h.trans ⟨hg.os, hg.tape, hg.output, hg.size, fun i o ho hc => by
    have hlt : i < a.heap.size := (Array.getElem?_eq_some_iff.1 ho).1
    rw [hg.block i hlt (fun e => ?_)]
    · exact ho
    · obtain ⟨h1, cs, t, m, h2, h3⟩ := hr i e.symm
      rw [h2] at ho
      injection ho with ho
      rcases hc with hc | hc
      · omega
      · rw [hc cs t m ho.symm] at h3; cases h3⟩
theorem own_row {w : World} {base : Nat} {e : TypeId} {size n : Nat} {v : Value} {xs : List Value} (h : w.ownsRow base e size v n xs) : ∀ g, v.ownBlock = some g → base ≤ g ∧ ∃ cs t m, w.heap[g]? = some (.cells cs t m) ∧ t = e := by
  intro g hg
  rcases h.2 with ⟨rfl, _⟩ | ⟨q, cap, cur, rfl, hb, hq, _⟩
  · simp [Value.ownBlock] at hg
  · have : q = g := by simpa [Value.ownBlock] using hg
    subst this
    exact ⟨hb, cur, e, _, hq, rfl⟩
theorem RefB.app {cs : Array Value} {kv cv v1 : Value} {kept : List ByteArray} {cache : List (Int × ByteArray)} {o : Obj} {w1 : World} {a : Int} {s : ByteArray} (h : RefB w base R cs kv cv kept cache) (hg : (w.alloc o).grownBy w1 cv.ownBlock)
    (hown : w1.ownsRow base 69 2 v1 (cache.length + 1) (wrCells cache ++ [.int .i64 a, .string s])) : RefB w1 base R cs kv v1 kept (cache ++ [(a, s)]) ∧ OnlyT base refT w w1 := by
  have ha := h.later ((Below.refl _ _).alloc (Nat.le_refl _) o)
  refine ⟨⟨?_, ha.2.1.kept hg (own_ne_own ha.2.1 ha.2.2 (by decide)), ?_⟩, (OnlyT.refl.alloc o).grown hg fun g e => ?_⟩
  · rw [hg.block R (Array.getElem?_eq_some_iff.1 ha.1).1 (own_ne_blk ha.2.2 ha.1 (by decide))]
    exact ha.1
  · rw [wrCells_snoc]
    simpa using hown
  · obtain ⟨h1, cs, t, m, h2, rfl⟩ := own_row ha.2.2 g e
    exact ⟨h1, cs, _, m, h2, by decide⟩

theorem putS_ok (ok : st.Ok) {at_ : Int} {s : ByteArray} (h0 : 0 ≤ at_) (h1 : at_ < st.kept.length) (hs : s.size = 64) : (putS st at_ s).Ok :=
  { ok with
    at_ := fun x hx => by
      rcases List.mem_append.1 hx with h | h
      · exact ok.at_ x h
      · obtain rfl : x = (at_, s) := by simpa using h
        exact ⟨h0, h1, hs⟩
    armed0 := by have := ok.armed0; simp only [putS]; split <;> omega
    armed1 := by have := ok.armed1; simp only [putS]; split <;> omega
    writes0 := by have := ok.writes0; simp only [putS]; omega }

set_option maxHeartbeats 400000 in
theorem refwrite_no (h : RefAt w base R st) (at_ : Int) (s : ByteArray) (v : Int) (hv : (st.off = true ∧ v = 5) ∨ (st.off = false ∧ outB st at_ = true ∧ v = 2) ∨ (st.off = false ∧ outB st at_ = false ∧ s.size ≠ 64 ∧ v = 1)) :
    Calls Try.prog 14 #[.pointer (some ⟨R, 0, none⟩), .int .i64 at_, .string s] w fun e w' => e = .returned (.int .i64 v) ∧ RefAt w' base R st ∧ OnlyT base refT w w' := by
  have H := Lib.hid h
  obtain ⟨kv, cv, hR, hb, hk, hc, ok⟩ := h
  have hB : RefB w base R _ kv cv st.kept st.cache := ⟨hR, hk, hc⟩
  obtain ⟨A, c, B, d, ek, ec⟩ := hB.lens
  have c0 := hB.cell 0
  have c2 := hB.cell 2
  simp at c0 c2
  clear hR hk hc hB
  subst ek
  rcases hv with ⟨ho, rfl⟩ | ⟨ho, hout, rfl⟩ | ⟨ho, hout, hs, rfl⟩
  · rw [ho] at c2
    clear ho
    go_enter Try.func14, Try.ntmps14
    go_wp2
    go_ret
    exact ⟨rfl, H.out, OnlyT.refl⟩
  · rw [ho] at c2
    clear ho
    by_cases h0 : at_ < 0
    · clear hout
      go_enter Try.func14, Try.ntmps14
      go_wp2
      go_ret
      exact ⟨rfl, H.out, OnlyT.refl⟩
    · have h1 : (st.kept.length : Int) ≤ at_ := by simp [outB] at hout; omega
      clear hout
      go_enter Try.func14, Try.ntmps14
      go_wp2
      go_ret
      exact ⟨rfl, H.out, OnlyT.refl⟩
  · rw [ho] at c2
    clear ho
    have h0 : ¬ at_ < 0 := by simp [outB] at hout; omega
    have h1 : ¬ (st.kept.length : Int) ≤ at_ := by simp [outB] at hout; omega
    have hsb : ((s.size : Int) != 64) = true := by simp; omega
    clear hout
    go_enter Try.func14, Try.ntmps14
    go_wp2
    go_ret
    exact ⟨rfl, H.out, OnlyT.refl⟩

set_option maxHeartbeats 1000000 in
theorem refwrite_yes (h : RefAt w base R st) (at_ : Int) (s : ByteArray) (hn : st.cache.length ≤ 1000000) (hwr : st.writes ≤ 1000000) (hbs : base ≤ w.heap.size) (ho : st.off = false) (hout : outB st at_ = false) (hs : s.size = 64) (harm : ¬ 0 < st.armed) :
    Calls Try.prog 14 #[.pointer (some ⟨R, 0, none⟩), .int .i64 at_, .string s] w fun e w' => e = .returned (.int .i64 0) ∧ RefAt w' base R (putS st at_ s) ∧ OnlyT base refT w w' := by
  obtain ⟨i0, hi, hz0, hz1, hz2⟩ := info_parts info_wr
  obtain ⟨kv, cv, hR, hb, hk, hc, ok⟩ := h
  have hB : RefB w base R _ kv cv st.kept st.cache := ⟨hR, hk, hc⟩
  have HB := Lib.hid hB
  obtain ⟨A, c, B, d, ek, ec⟩ := hB.lens
  have c0 := hB.cell 0
  have c1 := hB.cell 1
  have c2 := hB.cell 2
  simp [ho] at c0 c1 c2
  have h0 : ¬ at_ < 0 := by simp [outB] at hout; omega
  have h1 : ¬ (st.kept.length : Int) ≤ at_ := by simp [outB] at hout; omega
  have hsb : ((s.size : Int) != 64) = false := by simp [hs]
  have HO := Lib.hid (putS_ok (at_ := at_) (s := s) ok (by omega) (by omega) hs)
  have a0 := ok.armed0
  have w0 := ok.writes0
  have HC := Lib.hid (hc.alloc (.cells #[.int .i64 at_, .string s] 69))
  clear hR hk hc hB hout ok
  subst ek ec
  go_enter Try.func14, Try.ntmps14
  go_wp2_with (at_builtin; refine wpList_append_own _ rfl (.tmp 29) (.tmp 33) 47 rfl base 69 i0 _ 2 24 Try.underlying47 hi hz0 hz1 hz2 rfl (by omega) (.slice B st.cache.length d) st.cache.length (wrCells st.cache) rfl HC.out ⟨w.heap.size, 0, none⟩ 1 1 [.int .i64 at_, .string s] rfl rfl (two_cells_new w _ _ _) (by simp [Value.oneCell']) (by unfold maxLen; omega) (by omega) (by simp; omega) ?_; intro v1 w1 hown1 hg1 _; have HA := Lib.hid (HB.out.app hg1 hown1); obtain ⟨A1, c9, B1, d1, _, e9⟩ := HA.out.1.lens; subst e9; clear hown1 hg1; have k1 := HA.out.1.cell 1; have f1 := HA.out.1.free 1; have k3 := HA.out.1.cell 3; have k5 := HA.out.1.cell 5; have f5 := HA.out.1.free 5; simp at k1 k3 k5)
  go_ret
  have h1 := HA.out.1.set 1 (.slice B1 (st.cache.length + 1) d1)
  have h2 := h1.set 5 (.int .i64 (st.writes + 1))
  have ha : (putS st at_ s).armed = st.armed := by simp only [putS]; rw [if_neg (by omega)]
  refine ⟨rfl, ⟨.slice A st.kept.length c, .slice B1 (st.cache ++ [(at_, s)]).length d1, ?_, hb, h2.2.1, h2.2.2, HO.out⟩, (HA.out.2.setCell HA.out.1.1 refT_disk hb).setCell h1.1 refT_disk hb⟩
  rw [ha]
  simpa [putS, ho] using h2.1

set_option maxHeartbeats 1000000 in
theorem refwrite_arm (h : RefAt w base R st) (at_ : Int) (s : ByteArray) (hn : st.cache.length ≤ 1000000) (hwr : st.writes ≤ 1000000) (hbs : base ≤ w.heap.size) (ho : st.off = false) (hout : outB st at_ = false) (hs : s.size = 64) (harm : 1 < st.armed) :
    Calls Try.prog 14 #[.pointer (some ⟨R, 0, none⟩), .int .i64 at_, .string s] w fun e w' => e = .returned (.int .i64 0) ∧ RefAt w' base R (putS st at_ s) ∧ OnlyT base refT w w' := by
  obtain ⟨i0, hi, hz0, hz1, hz2⟩ := info_parts info_wr
  obtain ⟨kv, cv, hR, hb, hk, hc, ok⟩ := h
  have hB : RefB w base R _ kv cv st.kept st.cache := ⟨hR, hk, hc⟩
  have HB := Lib.hid hB
  obtain ⟨A, c, B, d, ek, ec⟩ := hB.lens
  have c0 := hB.cell 0
  have c1 := hB.cell 1
  have c2 := hB.cell 2
  simp [ho] at c0 c1 c2
  have h0 : ¬ at_ < 0 := by simp [outB] at hout; omega
  have h1 : ¬ (st.kept.length : Int) ≤ at_ := by simp [outB] at hout; omega
  have hsb : ((s.size : Int) != 64) = false := by simp [hs]
  have HO := Lib.hid (putS_ok (at_ := at_) (s := s) ok (by omega) (by omega) hs)
  have a0 := ok.armed0
  have a1 := ok.armed1
  have hab : (st.armed - 1 == 0) = false := by simp; omega
  have w0 := ok.writes0
  have HC := Lib.hid (hc.alloc (.cells #[.int .i64 at_, .string s] 69))
  clear hR hk hc hB hout ok
  subst ek ec
  go_enter Try.func14, Try.ntmps14
  go_wp2_with (at_builtin; refine wpList_append_own _ rfl (.tmp 29) (.tmp 33) 47 rfl base 69 i0 _ 2 24 Try.underlying47 hi hz0 hz1 hz2 rfl (by omega) (.slice B st.cache.length d) st.cache.length (wrCells st.cache) rfl HC.out ⟨w.heap.size, 0, none⟩ 1 1 [.int .i64 at_, .string s] rfl rfl (two_cells_new w _ _ _) (by simp [Value.oneCell']) (by unfold maxLen; omega) (by omega) (by simp; omega) ?_; intro v1 w1 hown1 hg1 _; have HA := Lib.hid (HB.out.app hg1 hown1); obtain ⟨A1, c9, B1, d1, _, e9⟩ := HA.out.1.lens; subst e9; clear hown1 hg1; have k1 := HA.out.1.cell 1; have f1 := HA.out.1.free 1; have k3 := HA.out.1.cell 3; have k5 := HA.out.1.cell 5; have f5 := HA.out.1.free 5; have f3 := HA.out.1.free 3; simp at k1 k3 k5)
  go_ret
  have h1 := HA.out.1.set 1 (.slice B1 (st.cache.length + 1) d1)
  have h2 := h1.set 5 (.int .i64 (st.writes + 1))
  have h3 := h2.set 3 (.int .i64 (st.armed - 1))
  have ha : (putS st at_ s).armed = st.armed - 1 := by simp only [putS]; rw [if_pos (by omega)]
  refine ⟨rfl, ⟨.slice A st.kept.length c, .slice B1 (st.cache ++ [(at_, s)]).length d1, ?_, hb, h3.2.1, h3.2.2, HO.out⟩, ((HA.out.2.setCell HA.out.1.1 refT_disk hb).setCell h1.1 refT_disk hb).setCell h2.1 refT_disk hb⟩
  rw [ha]
  simpa [putS, ho] using h3.1

set_option maxHeartbeats 1000000 in
theorem refwrite_one (h : RefAt w base R st) (at_ : Int) (s : ByteArray) (hn : st.cache.length < 1000000) (hwr : st.writes ≤ 1000000) (hbs : base ≤ w.heap.size) (ho : st.off = false) (hout : outB st at_ = false) (hs : s.size = 64) (harm : st.armed = 1) :
    Calls Try.prog 14 #[.pointer (some ⟨R, 0, none⟩), .int .i64 at_, .string s] w fun e w' => e = .returned (.int .i64 5) ∧ RefAt w' base R (crashS (putS st at_ s) st.bits) ∧ OnlyT base refT w w' := by
  obtain ⟨i0, hi, hz0, hz1, hz2⟩ := info_parts info_wr
  obtain ⟨kv, cv, hR, hb, hk, hc, ok⟩ := h
  have hB : RefB w base R _ kv cv st.kept st.cache := ⟨hR, hk, hc⟩
  have HB := Lib.hid hB
  obtain ⟨A, c, B, d, ek, ec⟩ := hB.lens
  have c0 := hB.cell 0
  have c1 := hB.cell 1
  have c2 := hB.cell 2
  simp [ho] at c0 c1 c2
  have h0 : ¬ at_ < 0 := by simp [outB] at hout; omega
  have h1 : ¬ (st.kept.length : Int) ≤ at_ := by simp [outB] at hout; omega
  have hsb : ((s.size : Int) != 64) = false := by simp [hs]
  have HO := Lib.hid (putS_ok (at_ := at_) (s := s) ok (by omega) (by omega) hs)
  have a0 := ok.armed0
  have a1 := ok.armed1
  have hab : (st.armed - 1 == 0) = true := by simp; omega
  have w0 := ok.writes0
  have bb0 := ok.bits0
  have HB1 := Lib.hid ok.bits1
  have HC := Lib.hid (hc.alloc (.cells #[.int .i64 at_, .string s] 69))
  clear hR hk hc hB hout ok
  subst ek ec
  go_enter Try.func14, Try.ntmps14
  go_wp2_with (at_builtin; refine wpList_append_own _ rfl (.tmp 29) (.tmp 33) 47 rfl base 69 i0 _ 2 24 Try.underlying47 hi hz0 hz1 hz2 rfl (by omega) (.slice B st.cache.length d) st.cache.length (wrCells st.cache) rfl HC.out ⟨w.heap.size, 0, none⟩ 1 1 [.int .i64 at_, .string s] rfl rfl (two_cells_new w _ _ _) (by simp [Value.oneCell']) (by unfold maxLen; omega) (by omega) (by simp; omega) ?_; intro v1 w1 hown1 hg1 _; have HA := Lib.hid (HB.out.app hg1 hown1); obtain ⟨A1, c9, B1, d1, _, e9⟩ := HA.out.1.lens; subst e9; clear hown1 hg1; have k1 := HA.out.1.cell 1; have f1 := HA.out.1.free 1; have k3 := HA.out.1.cell 3; have k5 := HA.out.1.cell 5; have f5 := HA.out.1.free 5; have f3 := HA.out.1.free 3; have k4 := HA.out.1.cell 4; simp at k1 k3 k4 k5)
  have h1 := HA.out.1.set 1 (.slice B1 (st.cache.length + 1) d1)
  have h2 := h1.set 5 (.int .i64 (st.writes + 1))
  have h3 := h2.set 3 (.int .i64 0)
  have ha : (putS st at_ s).armed = 0 := by simp only [putS]; rw [if_pos (by omega)]; omega
  have hO := ((HA.out.2.setCell (i := 1) (v := .slice B1 (st.cache.length + 1) d1) HA.out.1.1 refT_disk hb).setCell (i := 5) (v := .int .i64 (st.writes + 1)) h1.1 refT_disk hb).setCell (i := 3) (v := .int .i64 0) h2.1 refT_disk hb
  have hRef : RefAt (((w1.setCell ⟨R, 1, none⟩ (.slice B1 (st.cache.length + 1) d1)).setCell ⟨R, 5, none⟩ (.int .i64 (st.writes + 1))).setCell ⟨R, 3, none⟩ (.int .i64 0)) base R (putS st at_ s) := by
    refine ⟨.slice A st.kept.length c, .slice B1 (st.cache ++ [(at_, s)]).length d1, ?_, hb, h3.2.1, h3.2.2, HO.out⟩
    rw [ha]
    simpa [putS, ho] using h3.1
  refine (refcrash_is hRef st.bits bb0 HB1.out (by simp [putS]; omega)).mono ?_
  rintro e w2 ⟨rfl, hr2, ho2⟩
  have HR2 := Lib.hid hr2
  have HO2 := Lib.hid (hO.trans ho2)
  clear hr2 ho2 hO hRef h1 h2 h3 k1 f1 k3 f3 k4 k5 f5
  go_wp2_with fail
  go_ret
  exact ⟨rfl, HR2.out, HO2.out⟩

theorem refwrite_is (h : RefAt w base R st) (at_ : Int) (s : ByteArray) (hn : st.cache.length < 1000000) (hwr : st.writes ≤ 1000000) (hbs : base ≤ w.heap.size) :
    Calls Try.prog 14 #[.pointer (some ⟨R, 0, none⟩), .int .i64 at_, .string s] w fun e w' => e = .returned (.int .i64 (writeE st at_ s)) ∧ RefAt w' base R (writeS st at_ s) ∧ OnlyT base refT w w' := by
  have hok : 0 ≤ st.armed := by obtain ⟨_, _, _, _, _, _, ok⟩ := h; exact ok.armed0
  cases ho : st.off
  · cases hout : outB st at_
    · by_cases hs : s.size = 64
      · by_cases ha : st.armed = 1
        · have := refwrite_one h at_ s (by omega) hwr hbs ho hout hs ha
          simpa [writeE, writeS, ho, hout, hs, ha] using this
        · by_cases hb : 0 < st.armed
          · have := refwrite_arm h at_ s (by omega) hwr hbs ho hout hs (by omega)
            simpa [writeE, writeS, ho, hout, hs, ha] using this
          · have := refwrite_yes h at_ s (by omega) hwr hbs ho hout hs hb
            simpa [writeE, writeS, ho, hout, hs, ha] using this
      · have := refwrite_no h at_ s 1 (.inr (.inr ⟨ho, hout, hs, rfl⟩))
        simpa [writeE, writeS, ho, hout, hs] using this
    · have := refwrite_no h at_ s 2 (.inr (.inl ⟨ho, hout, rfl⟩))
      simpa [writeE, writeS, ho, hout] using this
  · have := refwrite_no h at_ s 5 (.inl ⟨ho, rfl⟩)
    simpa [writeE, writeS, ho] using this

end
end Go.Proofs.Ytabjpmofakdacaa
