/-
  What the program's found (package plog) answers: what stands in a half. No conditions but how the log and the disk lie, that it is on, with nothing in its cache, and that the half is there.
-/
import Derived.Test.YtbdgmddlghhkjaaPlgC
namespace Go.Proofs.Ytbdgmddlghhkjaa
open Go.RowKit

section
variable {w W : World} {base D B g : Nat} {c : PCfg} {K : LogV} {v : Value} {st : Dk}
theorem readS_rdK (ho : st.off = false) (hc : st.cache = []) (i : Int) : readS st i = rdK st.kept i := by
  unfold readS rdK
  rw [ho, hc]
  rfl
set_option maxHeartbeats 400000 in
set_option maxRecDepth 100000 in
theorem pread_is {pb : Nat} (hg : W.heap[g]? = some (.cells #[.pointer (some ⟨B, 0, none⟩)] 30 (0, 0))) (h : PlgAt W pb D B c K v) (hd : DiskAt W base D st) (ho : st.off = false) (hc : st.cache = []) (i : Int) :
    Calls Try.prog 40 #[.int .i64 i, .pointer (some ⟨g, 0, none⟩)] W fun e W' => e = .returned (.string (rdK st.kept i)) ∧ Below W.heap.size W W' := by
  have z0 := cellH hg 0
  have c0 := cellH h.1 0
  simp at z0 c0
  have R := Lib.hid (dread_is hd i (by rw [hc]; simp))
  rw [readS_rdK ho hc] at R
  generalize rdK st.kept i = s at *
  generalize readE st i = n at *
  clear hg h hd ho hc
  go_enter Try.func40, Try.ntmps40
  go_wp2_with fail
  refine (R.out).mono ?_
  rintro e w1 ⟨rfl, hw1⟩
  subst hw1
  go_wp2_with fail
  go_ret
  exact ⟨rfl, Below.refl _ _⟩
end

/-- What stands in a half. -/
def FoundR (rd : Int → ByteArray) (b half par : Int) (out : LogV) : Prop :=
  (∃ g s recs nx, 1 ≤ g ∧ g % 2 = par ∧ Stands rd b (b + half) g 0 s ∧ RecsStand rd (b + half) g (b + cntN s.size) 1 recs nx ∧ out = ⟨g, s, recs, nx - b⟩) ∨
    ((∀ g s, 1 ≤ g → g % 2 = par → ¬ Stands rd b (b + half) g 0 s) ∧ out = noLog)

/-- What lies in memory while a half is looked through. -/
structure FnW (w : World) (B : Nat) (W : World) : Prop where
  b0 : W.heap[w.heap.size]? = some (.cells #[.pointer (some ⟨B, 0, none⟩)] 30 (0, 0))
  b1 : W.heap[w.heap.size + 1]? = some (.cells #[.int .i64 0, .string ⟨#[]⟩, .slice none 0 0, .int .i64 0] 67 (0, 0))
  low : Below w.heap.size w W
theorem FnW.later {w W W' : World} {B : Nat} (h : FnW w B W) (hb : Below W.heap.size W W') : FnW w B W' := ⟨later_at hb h.b0, later_at hb h.b1, below_step h.low hb⟩
theorem FnW.start (w : World) (B : Nat) : FnW w B ((w.alloc (.cells #[.pointer (some ⟨B, 0, none⟩)] 30)).alloc (.cells #[.int .i64 0, .string ⟨#[]⟩, .slice none 0 0, .int .i64 0] 67)) :=
  ⟨later_at ((Below.refl _ _).alloc (Nat.le_refl _) _) (made_at _ _), by simpa using made_at (w.alloc (.cells #[.pointer (some ⟨B, 0, none⟩)] 30)) (.cells #[.int .i64 0, .string ⟨#[]⟩, .slice none 0 0, .int .i64 0] 67), ((Below.refl _ _).alloc (Nat.le_refl _) _).alloc (by simp) _⟩

structure FsW (w : World) (B q : Nat) (gen rm : Int) (bs : ByteArray) (v : Value) (recs : List ByteArray) (W : World) : Prop where
  fn : FnW w B W
  s : W.heap[q]? = some (.cells #[.int .i64 gen, .string bs, v, .int .i64 rm] 67 (0, 0))
  own : W.ownsRow w.heap.size 9 1 v recs.length (txV recs)
  q2 : w.heap.size + 1 < q
section
variable {w W W' : World} {B q : Nat} {gen rm : Int} {bs : ByteArray} {v : Value} {recs : List ByteArray}
theorem FsW.later (h : FsW w B q gen rm bs v recs W) (hb : Below W.heap.size W W') : FsW w B q gen rm bs v recs W' :=
  ⟨h.fn.later hb, later_at hb h.s, own_agree h.own (fun i _ hi => hb.block i hi), h.q2⟩
theorem FsW.room (h : FsW w B q gen rm bs v recs W) (r : Int) : FsW w B q gen r bs v recs (W.setCell ⟨q, 3, none⟩ (.int .i64 r)) := by
  have o : ∀ g, g ≠ q → (W.setCell ⟨q, 3, none⟩ (.int .i64 r)).heap[g]? = W.heap[g]? := fun g hg => Below.heap_setCell W ⟨q, 3, none⟩ _ g (by simpa using hg)
  have hq := h.q2
  refine ⟨⟨(o _ (by omega)).trans h.fn.b0, (o _ (by omega)).trans h.fn.b1, h.fn.low.setCell (by simp; omega) _⟩, ?_, own_set h.own h.s (by decide), h.q2⟩
  rw [row_set h.s]
  rfl
theorem FsW.ne (h : FsW w B q gen rm bs v recs W) : ∀ g, v.ownBlock = some g → g ≠ w.heap.size ∧ g ≠ w.heap.size + 1 ∧ g ≠ q ∧ w.heap.size ≤ g := fun g hg => by
  obtain ⟨h1, cs, h2⟩ := own_type h.own hg
  refine ⟨fun e => ?_, fun e => ?_, fun e => ?_, h1⟩ <;> subst e
  · have := h.fn.b0
    rw [h2] at this
    injection this with this
    injection this with _ ht
    exact absurd ht (by decide)
  · have := h.fn.b1
    rw [h2] at this
    injection this with this
    injection this with _ ht
    exact absurd ht (by decide)
  · have := h.s
    rw [h2] at this
    injection this with this
    injection this with _ ht
    exact absurd ht (by decide)
theorem FsW.grow (h : FsW w B q gen rm bs v recs W) {t : ByteArray} {A : Option Addr} {n c : Nat} (hg : W.grownBy W' v.ownBlock) (ho : W'.ownsRow w.heap.size 9 1 (.slice A n c) (recs.length + 1) (txV recs ++ [.string t])) :
    FsW w B q gen rm bs (.slice A n c) (recs ++ [t]) (W'.setCell ⟨q, 2, none⟩ (.slice A n c)) := by
  have hq := h.q2
  have hne := h.ne
  have g0 := grown_at hg h.fn.b0 (fun e => (hne _ e).1 rfl)
  have g1 := grown_at hg h.fn.b1 (fun e => (hne _ e).2.1 rfl)
  have g2 := grown_at hg h.s (fun e => (hne _ e).2.2.1 rfl)
  have o : ∀ g, g ≠ q → (W'.setCell ⟨q, 2, none⟩ (.slice A n c)).heap[g]? = W'.heap[g]? := fun g hg => Below.heap_setCell W' ⟨q, 2, none⟩ _ g (by simpa using hg)
  refine ⟨⟨(o _ (by omega)).trans g0, (o _ (by omega)).trans g1, (h.fn.low.grown hg (by have := h.fn.low.size; omega) (fun b e => (hne b e).2.2.2)).setCell (by simp; omega) _⟩, ?_, ?_, h.q2⟩
  · rw [row_set g2]
    rfl
  · have e : txV (recs ++ [t]) = txV recs ++ [.string t] := List.map_append
    rw [e, List.length_append]
    exact own_set ho g2 (by decide)
end

section
variable {w : World} {base D B : Nat} {c : PCfg} {K : LogV} {v : Value} {st : Dk}
set_option maxHeartbeats 2000000 in
set_option maxRecDepth 100000 in
theorem found_is {pb : Nat} (h : PlgAt w pb D B c K v) (hd : DiskAt w base D st) (ho : st.off = false) (hc : st.cache = []) (kind : Int) (hk : kind = 1 ∨ kind = 2) (b0 : 0 ≤ c.base) (b1 : 1 ≤ c.half) (b2 : c.half ≤ 2000) (b3 : c.base + 2 * c.half ≤ st.kept.length) (b4 : st.kept.length ≤ 4096) :
    Calls Try.prog 30 #[.pointer (some ⟨B, 0, none⟩), .int .i64 kind] w fun e w' => ∃ A cc K', e = .returned (.agg #[.int .i64 K'.gen, .string K'.bs, .slice A K'.recs.length cc, .int .i64 (roomV c.half K')]) ∧
      FoundR (rdK st.kept) (halfAt c.base c.half kind) c.half (kind % 2) K' ∧ w'.ownsRow w.heap.size 9 1 (.slice A K'.recs.length cc) K'.recs.length (txV K'.recs) ∧ Below w.heap.size w w' := by
  obtain ⟨rd, hrd⟩ : ∃ rd, rd = rdK st.kept := ⟨_, rfl⟩
  rw [← hrd]
  obtain ⟨b, hb⟩ : ∃ b, b = halfAt c.base c.half kind := ⟨_, rfl⟩
  rw [← hb]
  have hb0 : 0 ≤ b ∧ b + c.half ≤ 4096 := by rw [hb]; unfold halfAt; split <;> omega
  have START := Lib.hid (fun (W : World) (hW : Below w.heap.size w W) (g : Int) (h0 : 0 ≤ g) (h1 : g ≤ 9223372036854775807) => pstart_is (h.later hW) g h0 h1 b0 (by omega) (by omega) (by omega))
  have READ := Lib.hid (fun (W : World) (hW : FnW w B W) (i : Int) => pread_is hW.b0 (h.later hW.low) (diskAt_later hd hW.low) ho hc i)
  rw [← hrd] at READ
  clear hrd
  have HC2 := Lib.hid (fun (W : World) (hW : Below w.heap.size w W) => show W.cell? ⟨B, 2, none⟩ = some (.int .i64 c.half) by simpa using cellH (h.later hW).1 2)
  have HB := Lib.hid hb
  have S1 := Lib.hid (fun (W : World) (hW : Below w.heap.size w W) => START.out W hW kind (by omega) (by omega))
  rw [← hb] at S1
  have HN0 := Lib.hid (FnW.start w B)
  have hmf : ∀ (fn : Fn) (first cap : Array Value) (w : World), (Instr.makeFunc fn first cap).run Try.prog w = .ok (.func fn first cap) w := fun _ _ _ _ => rfl
  have hk0 : 0 ≤ kind ∧ kind ≤ 2 := by omega
  have hpar : kind % 2 = if kind = 1 then 1 else 0 := by rcases hk with rfl | rfl <;> rfl
  obtain ⟨par, hpr⟩ : ∃ par, par = kind % 2 := ⟨_, rfl⟩
  rw [← hpr]
  have HPAR := Lib.hid hpr
  have HK := Lib.hid hk
  have z0 := cellH HN0.out.b0 0
  simp at z0
  have k2 := HC2.out _ HN0.out.low
  clear h hd ho hc b3 hb hk hpar hpr
  go_enter Try.func30, Try.ntmps30
  go_wp2_with fail
  refine (S1.out _ HN0.out.low).mono ?_
  rintro e w1 ⟨rfl, hb1⟩
  have HN1 := Lib.hid (HN0.out.later hb1)
  clear z0 k2
  have z0 := cellH HN1.out.b0 0
  simp at z0
  have k2 := HC2.out _ HN1.out.low
  clear HN0 hb1
  go_wp2_with fail
  refine (READ.out _ HN1.out _).mono ?_
  rintro e w2 ⟨rfl, hb2⟩
  have HN2 := Lib.hid (HN1.out.later hb2)
  clear HN1 hb2 z0 k2
  obtain ⟨p, hp⟩ : ∃ p, p = (readP (rd b)).getD noPc := ⟨_, rfl⟩
  have RI := Lib.hid (read_is (rd b))
  rw [← hp] at RI
  have HP := Lib.hid hp
  clear hp
  go_wp2_with fail
  refine (RI.out _).mono ?_
  rintro e w3 ⟨rfl, hb3⟩
  have HN3 := Lib.hid (HN2.out.later hb3)
  clear HN2 hb3 RI
  go_upto_region 5 with fail
  have HN4 := Lib.hid (HN3.out.later ((Below.refl _ _).alloc (Nat.le_refl _) (.cells #[.int .u64 p.stamp, .int .i64 p.gen, .int .i64 p.no, .int .i64 p.idx, .int .i64 p.tot, .string p.data] 85)))
  have HG4 := Lib.hid (made_at w3 (.cells #[.int .u64 p.stamp, .int .i64 p.gen, .int .i64 p.no, .int .i64 p.idx, .int .i64 p.tot, .string p.data] 85))
  generalize w3.alloc (.cells #[.int .u64 p.stamp, .int .i64 p.gen, .int .i64 p.no, .int .i64 p.idx, .int .i64 p.tot, .string p.data] 85) = W4 at HN4 HG4 ⊢
  generalize w3.heap.size = q at HG4 ⊢
  clear HN3
  generalize (if (readP (rd b)).isSome = true then (0 : Int) else 3) = er
  have hpg : 0 ≤ p.gen ∧ p.gen ≤ 2147483647 := by
    rw [HP.out]
    cases hr : readP (rd b) with
    | none => exact ⟨by decide, by decide⟩
    | some x => have := (readP_ok hr).1; have h1 := this.g0; have h2 := this.g1; simp only [Option.getD_some]; omega
  have q1 := cellH HG4.out 1
  have z0 := cellH HN4.out.b0 0
  have y0 := cellH HN4.out.b1 0
  have y1 := cellH HN4.out.b1 1
  have y2 := cellH HN4.out.b1 2
  have y3 := cellH HN4.out.b1 3
  have yf := freeH HN4.out.b1
  simp at q1 z0 y0 y1 y2 y3
  obtain ⟨hpg0, hpg1⟩ := hpg
  by_cases hg : p.gen < 1
  · have HF := Lib.hid (show FoundR rd b c.half par noLog from .inr ⟨fun g s g1 _ hs => by
      obtain ⟨x, hx, hx1, _⟩ := stands_first hs
      have := HP.out
      rw [hx] at this
      rw [this] at hg
      simp only [Option.getD_some] at hg
      omega, rfl⟩)
    have HLOW := Lib.hid HN4.out.low
    have HSZ := Lib.hid HN4.out.low.size
    go_wp2_with fail
    refine bodyPost_ret (v := .agg #[.int .i64 0, .string ⟨#[]⟩, .slice none 0 0, .int .i64 0]) (by simp [results, Try.results30, go_sem, y0, y1, y2, y3]) rfl ⟨none, 0, noLog, rfl, HF.out, World.ownsRow_nil _ _ _ _, ?_⟩
    repeat (refine Below.setCell ?_ (by simp) _)
    exact HLOW.out
  · have S2 := Lib.hid (START.out _ HN4.out.low p.gen hpg0 (by omega))
    go_wp2_with fail
    refine (S2.out).mono ?_
    rintro e w5 ⟨rfl, hb5⟩
    have HN5 := Lib.hid (HN4.out.later hb5)
    have HG5 := Lib.hid (later_at hb5 HG4.out)
    clear HN4 HG4 hb5 q1 z0 y0 y1 y2 y3 yf S2
    have q1 := cellH HG5.out 1
    have y0 := cellH HN5.out.b1 0
    have y1 := cellH HN5.out.b1 1
    have y2 := cellH HN5.out.b1 2
    have y3 := cellH HN5.out.b1 3
    have yf := freeH HN5.out.b1
    simp at q1 y0 y1 y2 y3
    by_cases hsame : halfAt c.base c.half p.gen = b
    rotate_left
    · have HF := Lib.hid (show FoundR rd b c.half par noLog from .inr ⟨fun g s g1 g2 hs => by
        obtain ⟨x, hx, hx1, _⟩ := stands_first hs
        have := HP.out
        rw [hx] at this
        rw [this] at hsame
        simp only [Option.getD_some] at hsame
        apply hsame
        rw [HB.out, hx1]
        rw [HPAR.out] at g2
        rcases HK.out with e | e <;> subst e <;> unfold halfAt
        · rw [if_pos (by omega), if_pos (by omega)]
        · rw [if_neg (by omega), if_neg (by omega)], rfl⟩)
      have HLOW := Lib.hid HN5.out.low
      have HSZ := Lib.hid HN5.out.low.size
      generalize halfAt c.base c.half p.gen = hh at *
      go_wp2_with fail
      refine bodyPost_ret (v := .agg #[.int .i64 0, .string ⟨#[]⟩, .slice none 0 0, .int .i64 0]) (by simp [results, Try.results30, go_sem, y0, y1, y2, y3]) rfl ⟨none, 0, noLog, rfl, HF.out, World.ownsRow_nil _ _ _ _, ?_⟩
      repeat (refine Below.setCell ?_ (by simp) _)
      exact HLOW.out
    have hpar2 : p.gen % 2 = par := by
      rw [HPAR.out]
      rw [HB.out] at hsame
      rcases HK.out with e | e <;> subst e <;> unfold halfAt at hsame
      · rw [if_pos (by decide : (1 : Int) % 2 = 1)] at hsame
        split at hsame <;> omega
      · rw [if_neg (by decide : ¬ (2 : Int) % 2 = 1)] at hsame
        split at hsame <;> omega
    have HPAR2 := Lib.hid hpar2
    rw [hsame]
    clear hsame hpar2
    have RD := Lib.hid (fun (W : World) (hW : FnW w B W) (at_ : Int) (no : Int) (h0 : -9223372036854775808 ≤ at_) => next_is 40 (.pointer (some ⟨w.heap.size, 0, none⟩)) rd at_ (b + c.half) p.gen no h0 (by omega) W (fun _ _ => rfl) (fun V hV i _ _ => READ.out V (hW.later hV) i))
    have N0 := Lib.hid (RD.out _ HN5.out b 0 (by omega))
    cases hn : nextP rd b (b + c.half) p.gen 0 with
    | none =>
      rw [hn] at N0
      have HF := Lib.hid (show FoundR rd b c.half par noLog from .inr ⟨fun g s g1 g2 hs => by
        obtain ⟨x, hx, hx1, _⟩ := stands_first hs
        have hp := HP.out
        rw [hx] at hp
        simp only [Option.getD_some] at hp
        rw [← hp] at hx1
        rw [← hx1] at hs
        rw [next_stands hs] at hn
        exact absurd hn (fun e => by cases e), rfl⟩)
      clear hn
      change Hid (Calls Try.prog _ _ _ fun e W' => e = .returned (.tuple #[.string ⟨#[]⟩, .int .i64 b, .bool false]) ∧ _) at N0
      go_wp2_with fail
      refine (N0.out).mono ?_
      rintro e w6 ⟨rfl, hb6⟩
      have HN6 := Lib.hid (HN5.out.later hb6)
      clear HN5 HG5 hb6 q1 y0 y1 y2 y3 yf N0
      have y0 := cellH HN6.out.b1 0
      have y1 := cellH HN6.out.b1 1
      have y2 := cellH HN6.out.b1 2
      have y3 := cellH HN6.out.b1 3
      have yf := freeH HN6.out.b1
      simp at y0 y1 y2 y3
      have HLOW := Lib.hid HN6.out.low
      have HSZ := Lib.hid HN6.out.low.size
      go_wp2_with fail
      refine bodyPost_ret (v := .agg #[.int .i64 0, .string ⟨#[]⟩, .slice none 0 0, .int .i64 0]) (by simp [results, Try.results30, go_sem, y0, y1, y2, y3]) rfl ⟨none, 0, noLog, rfl, HF.out, World.ownsRow_nil _ _ _ _, ?_⟩
      repeat (refine Below.setCell ?_ (by simp) _)
      exact HLOW.out
    | some r =>
      obtain ⟨bs, nx⟩ := r
      rw [hn] at N0
      obtain ⟨hst, hnx⟩ := next_iff.1 hn
      clear hn
      change Hid (Calls Try.prog _ _ _ fun e W' => e = .returned (.tuple #[.string bs, .int .i64 nx, .bool true]) ∧ _) at N0
      have hnx1 : b + 1 ≤ nx ∧ nx ≤ b + c.half := by
        obtain ⟨_, _, _, _, h4, _⟩ := hst
        have := cnt_pos bs.size
        omega
      have HST := Lib.hid hst
      have HNX := Lib.hid hnx
      clear hst hnx
      go_wp2_with fail
      refine (N0.out).mono ?_
      rintro e w6 ⟨rfl, hb6⟩
      have HN6 := Lib.hid (HN5.out.later hb6)
      have HG6 := Lib.hid (later_at hb6 HG5.out)
      clear HN5 HG5 hb6 q1 y0 y1 y2 y3 yf N0
      have q1 := cellH HG6.out 1
      simp at q1
      have HZ : FsW w B w6.heap.size p.gen 0 bs (.slice none 0 0) [] (w6.alloc (.cells #[.int .i64 p.gen, .string bs, .slice none 0 0, .int .i64 0] 67)) :=
        ⟨HN6.out.later ((Below.refl _ _).alloc (Nat.le_refl _) _), made_at _ _, World.ownsRow_nil _ _ _ _, (Array.getElem?_eq_some_iff.1 HN6.out.b1).1⟩
      have HFS := Lib.hid HZ
      clear HZ
      go_wp2_with fail
      generalize w6.alloc (.cells #[.int .i64 p.gen, .string bs, .slice none 0 0, .int .i64 0] 67) = W7 at *
      generalize w6.heap.size = q2 at *
      clear HN6 HG6 q1 S1
      obtain ⟨i0, hi0, hz0, hz1, hz2⟩ := info_parts info_str4
      go_loopw [6] (fun a wr => ∃ (recs : List ByteArray) (at_ : Int) (A : Option Addr) (cc : Nat), a = .int .i64 at_ ∧ b + 1 + recs.length ≤ at_ ∧ at_ ≤ b + c.half ∧ FsW w B q2 p.gen 0 bs (.slice A recs.length cc) recs wr ∧
          (∀ l nx', RecsStand rd (b + c.half) p.gen at_ (recs.length + 1) l nx' → RecsStand rd (b + c.half) p.gen nx 1 (recs ++ l) nx')) (fun a _ => (b + c.half - intOf a).toNat)
      case atStart => exact ⟨[], nx, none, 0, rfl, by simp; omega, hnx1.2, HFS.out, fun l nx' h => by simpa using h⟩
      case round =>
        obtain ⟨recs, at_, A, cc, rfl, ha1, ha2, hfs, hrc⟩ := hrel
        have HF := Lib.hid hfs
        have HRC := Lib.hid hrc
        clear hfs hrc HFS
        have N1 := Lib.hid (RD.out _ HF.out.fn at_ (recs.length + 1) (by omega))
        have s0 := cellH HF.out.s 0
        have s1 := cellH HF.out.s 1
        have s2 := cellH HF.out.s 2
        have s3 := cellH HF.out.s 3
        have sf := freeH HF.out.s
        simp at s0 s1 s2 s3
        cases hn : nextP rd at_ (b + c.half) p.gen (recs.length + 1) with
        | none =>
          rw [hn] at N1
          change Hid (Calls Try.prog _ _ _ fun e W' => e = .returned (.tuple #[.string ⟨#[]⟩, .int .i64 at_, .bool false]) ∧ _) at N1
          have HR := Lib.hid (show RecsStand rd (b + c.half) p.gen nx 1 recs at_ from by
            have := HRC.out [] at_ (.nil (fun ⟨t, ht⟩ => by rw [next_stands ht] at hn; cases hn))
            simpa using this)
          clear hn
          go_wp2_with fail
          refine (N1.out).mono ?_
          rintro e w8 ⟨rfl, hb8⟩
          have HF8 := Lib.hid (HF.out.later hb8)
          clear HF hb8 s0 s1 s2 s3 sf N1 HRC
          have HF9 := Lib.hid (HF8.out.room (b + c.half - at_))
          have s0 := cellH HF8.out.s 0
          have s1 := cellH HF8.out.s 1
          have s2 := cellH HF8.out.s 2
          have s3 := cellH HF8.out.s 3
          have sf := freeH HF8.out.s
          simp at s0 s1 s2 s3
          go_upto_region 14 with fail
          generalize w8.setCell ⟨q2, 3, none⟩ (.int .i64 (b + c.half - at_)) = w9 at HF9 ⊢
          clear HF8 s0 s1 s2 s3 sf
          have s0 := cellH HF9.out.s 0
          have s1 := cellH HF9.out.s 1
          have s2 := cellH HF9.out.s 2
          have s3 := cellH HF9.out.s 3
          have y0 := cellH HF9.out.fn.b1 0
          have y1 := cellH HF9.out.fn.b1 1
          have y2 := cellH HF9.out.fn.b1 2
          have y3 := cellH HF9.out.fn.b1 3
          have yf := freeH HF9.out.fn.b1
          have HRM := Lib.hid (show b + c.half - at_ = roomV c.half ⟨p.gen, bs, recs, at_ - b⟩ by unfold roomV; rw [if_neg (by show ¬ p.gen = 0; omega)]; show _ = c.half - (at_ - b); omega)
          have HFO := Lib.hid (show FoundR rd b c.half par ⟨p.gen, bs, recs, at_ - b⟩ from .inl ⟨p.gen, bs, recs, at_, hg, HPAR2.out, HST.out, by rw [← HNX.out]; exact HR.out, rfl⟩)
          have HLOW := Lib.hid HF9.out.fn.low
          have HSZ := Lib.hid HF9.out.fn.low.size
          have HOW := Lib.hid HF9.out.own
          have HNE := Lib.hid HF9.out.ne
          have HB1 := Lib.hid HF9.out.fn.b1
          clear HF9
          simp at s0 s1 s2 s3 y0 y1 y2 y3
          go_wp2_with fail
          refine bodyPost_ret (v := .agg #[.int .i64 p.gen, .string bs, .slice A recs.length cc, .int .i64 (b + c.half - at_)]) (by simp [results, Try.results30, go_sem, y0, y1, y2, y3]) rfl ⟨A, cc, ⟨p.gen, bs, recs, at_ - b⟩, by rw [HRM.out], HFO.out, ?_, ?_⟩
          · refine own_set (own_set (own_set (own_set HOW.out HB1.out (by decide)) (row_set HB1.out) (by decide)) (row_set (row_set HB1.out)) (by decide)) (row_set (row_set (row_set HB1.out))) (by decide)
          · repeat (refine Below.setCell ?_ (by simp) _)
            exact HLOW.out
        | some r =>
          obtain ⟨t, nx2⟩ := r
          rw [hn] at N1
          change Hid (Calls Try.prog _ _ _ fun e W' => e = .returned (.tuple #[.string t, .int .i64 nx2, .bool true]) ∧ _) at N1
          obtain ⟨hst, hnx⟩ := next_iff.1 hn
          clear hn
          have hn2 : at_ + 1 ≤ nx2 ∧ nx2 ≤ b + c.half := by
            obtain ⟨_, _, _, _, h4, _⟩ := hst
            have := cnt_pos t.size
            omega
          have HRC2 := Lib.hid (show ∀ l nx', RecsStand rd (b + c.half) p.gen nx2 ((recs ++ [t]).length + 1) l nx' → RecsStand rd (b + c.half) p.gen nx 1 ((recs ++ [t]) ++ l) nx' from fun l nx' h => by
            rw [List.append_assoc]
            refine HRC.out _ _ (.cons hst ?_)
            rw [← hnx]
            simpa using h)
          clear hst hnx
          go_wp2_with fail
          refine (N1.out).mono ?_
          rintro e w8 ⟨rfl, hb8⟩
          have HF8 := Lib.hid (HF.out.later hb8)
          clear HF hb8 s0 s1 s2 s3 sf N1 HRC
          have s2 := cellH HF8.out.s 2
          have sf := freeH HF8.out.s
          simp at s2
          have HS8 := Lib.hid (HF8.out.later ((Below.refl _ _).alloc (Nat.le_refl _) (.cells #[.string t] 9)))
          have HNW := Lib.hid (show ∀ j u, [Value.string t][j]? = some u → (w8.alloc (.cells #[.string t] 9)).cell? ((⟨w8.heap.size, 0, none⟩ : Addr).add j) = some u from one_cell_new w8 (.string t) 9)
          have HLE := Lib.hid (show w.heap.size ≤ (w8.alloc (.cells #[.string t] 9)).heap.size from HS8.out.fn.low.size)
          have hrl : recs.length ≤ 4096 := by omega
          clear HF8
          go_wp2_with (at_builtin; refine wpList_append_own _ rfl (.tmp 84) (.tmp 86) 35 rfl w.heap.size 9 i0 _ 1 16 Try.underlying35 hi0 hz0 hz1 hz2 rfl (by omega) (.slice A recs.length cc) recs.length (txV recs) rfl HS8.out.own ⟨w8.heap.size, 0, none⟩ 1 1 [.string t] rfl rfl HNW.out (by simp [Value.oneCell']) (by unfold maxLen; omega) (by omega) HLE.out ?_; intro v2 w9 hown9 hg9 _; obtain ⟨B2, c2, hv2⟩ : ∃ B2 c2, v2 = .slice B2 (recs.length + 1) c2 := (by rcases hown9.2 with ⟨_, e⟩ | ⟨q, cap, cur, e, _⟩; exact absurd e (by omega); exact ⟨_, _, e⟩); subst hv2; have HGR := Lib.hid (HS8.out.grow hg9 hown9); have hst2 := grown_at hg9 HS8.out.s (fun e => (HS8.out.ne _ e).2.2.1 rfl); clear hown9 hg9; have x2 := cellH hst2 2; have xf := freeH hst2; clear hst2; simp at x2)
          go_roundw
          case rel => exact ⟨recs ++ [t], nx2, B2, c2, rfl, by simp; omega, hn2.2, by rw [List.length_append]; exact HGR.out, HRC2.out⟩
          case measure => simp [intOf]; omega
end
end Go.Proofs.Ytbdgmddlghhkjaa
