/-
  What the program's disk (package disk) does where it is made, armed, started; and what it asks behind a write that was put into its cache. No conditions but how it lies in memory. What the program's disk (package disk) does where a write of its cache is settled: the first n bytes of it are kept, and its sector has none there any more. No conditions but how it lies in memory.
-/
import Derived.Test.YtbdgmddlghhkjaaDiskL
namespace Go.Proofs.Ytbdgmddlghhkjaa
open Go.RowKit

theorem made_flat (zs : List Value) (m : Nat) (hm : zs.length = m) (h0 : 0 < m) : ∀ n, madeCells zs.toArray (n * m) = ((List.replicate n zs).flatten).toArray := by
  intro n
  apply Array.toList_inj.1
  induction n with
  | zero => simp [madeCells]
  | succ n ih =>
    have e : (madeCells zs.toArray (n * m + m)).toList = (madeCells zs.toArray (n * m)).toList ++ zs := by
      refine List.ext_getElem? fun j => ?_
      simp only [madeCells, Array.toList_map, Array.toList_range, List.size_toArray, hm]
      rw [List.getElem?_append, List.length_map, List.length_range, List.getElem?_map, List.getElem?_map]
      by_cases h1 : j < n * m
      · rw [if_pos h1, List.getElem?_range (by omega), List.getElem?_range h1]
      · rw [if_neg h1]
        by_cases h2 : j < n * m + m
        · rw [List.getElem?_range h2]
          have hj : j % m = j - n * m := by
            obtain ⟨k, rfl⟩ : ∃ k, j = n * m + k := ⟨j - n * m, by omega⟩
            rw [Nat.add_comm, Nat.add_mul_mod_self_right, Nat.mod_eq_of_lt (by omega)]
            omega
          have hk : j - n * m < zs.length := by omega
          simp only [Option.map_some, hj]
          simp [hk]
        · rw [List.getElem?_eq_none (by simp; omega), List.getElem?_eq_none (by omega)]
          rfl
    rw [Nat.add_mul, Nat.one_mul, e, ih, List.replicate_succ']
    simp

def secZ : List Value := List.replicate 64 (.int .u8 0) ++ [.int .i64 0]
theorem info_sec : (Try.prog.info? 98).map (fun i => (i.zero, i.size, i.bytes)) = some (some (.agg secZ.toArray), 65, 72) := by kernel_rfl
theorem zero_bytes : bytesV (zeroB 64) = List.replicate 64 (.int .u8 0) := by rfl
theorem flat_repl (n : Nat) : (List.replicate n secZ).flatten = (List.replicate n ((zeroB 64, 0) : ByteArray × Int)).flatMap secC := by
  rw [List.flatMap_replicate]
  simp [secC, zero_bytes, secZ]

section
variable {w : World} {base D : Nat} {st : Dk}

/-- What is asked behind a write: the armed power has one write less to go. -/
def dueS (st : Dk) : Dk := { st with armed := if 0 < st.armed then st.armed - 1 else st.armed }

set_option maxHeartbeats 400000 in
set_option maxRecDepth 100000 in
theorem ddue_is (h : DiskAt w base D st) :
    Calls Try.prog 63 #[.pointer (some ⟨D, 0, none⟩)] w fun e w' => e = .returned (.bool (decide (st.armed = 1))) ∧ DiskAt w' base D (dueS st) ∧ OnlyT base progT w w' ∧ w'.cell? ⟨D, 4, none⟩ = w.cell? ⟨D, 4, none⟩ := by
  have H := Lib.hid h
  obtain ⟨S, cv, secs, b, hB, hs, hb⟩ := h
  have hO := Lib.hid hs
  have HB := Lib.hid hB
  have HBB := Lib.hid hb
  have c3 := hB.cell 3
  have f3 := hB.free 3
  simp at c3
  have a0 := hs.ok.armed0
  have a1 := hs.ok.armed1
  clear hB hs hb
  by_cases ha : st.armed = 0
  · have hab : (st.armed == 0) = true := by simpa using ha
    have hd := Lib.hid (show dueS st = st by unfold dueS; rw [if_neg (by omega)])
    go_enter Try.func63, Try.ntmps63
    go_wp2_with fail
    go_ret
    exact ⟨ret_bool (by simp; omega), by rw [hd.out]; exact H.out, OnlyT.refl, rfl⟩
  · have hab : (st.armed == 0) = false := by simpa using ha
    have hd := Lib.hid (show dueS st = { st with armed := st.armed - 1 } by unfold dueS; rw [if_pos (by omega)])
    go_enter Try.func63, Try.ntmps63
    go_wp2_with fail
    go_ret
    have HB2 := HB.out.set 3 (.int .i64 (st.armed - 1))
    refine ⟨ret_bool (by rw [Bool.eq_iff_iff]; simp; omega), ?_, OnlyT.refl.setCell HB.out.1 (by decide) HB.out.2.2.2.1, by rw [HB2.cell 4, HB.out.cell 4]; simp⟩
    rw [hd.out]
    refine ⟨S, cv, secs, b, by simpa using HB2, ⟨hO.out.kept, hO.out.last, { hO.out.ok with armed0 := by simp only; omega, armed1 := by simp only; omega }⟩, fun h => HBB.out.1 (by simp only at h; omega), HBB.out.2⟩

set_option maxHeartbeats 400000 in
set_option maxRecDepth 100000 in
theorem darm_is (h : DiskAt w base D st) (a b : Int) (ha : a ≤ 9223372036854775807) (hb0 : 0 ≤ b) (hb1 : b < 18446744073709551616) :
    Calls Try.prog 20 #[.pointer (some ⟨D, 0, none⟩), .agg #[.int .i64 a, .int .u64 b]] w fun e w' => e = .returned (.tuple #[]) ∧ DiskAt w' base D (armS st a b) ∧ OnlyT base progT w w' := by
  obtain ⟨S, cv, secs, b', hB, hs, hb⟩ := h
  have hO := Lib.hid hs
  have HB := Lib.hid (hB.later ((Below.refl _ _).alloc (Nat.le_refl _) (.cells #[.int .i64 a, .int .u64 b] 40)))
  have c3 := HB.out.cell 3
  have f3 := HB.out.free 3
  have c4 := HB.out.cell 4
  have f4 := HB.out.free 4
  simp at c3 c4
  clear hB hs hb
  by_cases hm : a < 0
  all_goals
    go_enter Try.func20, Try.ntmps20
    go_wp2
    go_region
    all_goals
      go_end0
      have h1 := HB.out.set 3 (.int .i64 (max a 0))
      have h2 := h1.set 4 (.int .u64 b)
      have em : max a 0 = (if a < 0 then 0 else a) := by split <;> omega
      first
        | rw [if_pos (by omega)] at em
        | rw [if_neg (by omega)] at em
      rw [em] at h1 h2
      refine ⟨rfl, ⟨S, cv, secs, b, ?_, ⟨hO.out.kept, hO.out.last, { hO.out.ok with armed0 := by simp only [armS]; omega, armed1 := by simp only [armS]; omega, bits0 := hb0, bits1 := hb1 }⟩, fun _ => rfl, hb0, hb1⟩, ?_⟩
      · simp only [armS, em]
        simp at h2 ⊢
        exact h2
      · exact (((OnlyT.refl.alloc _).trans (OnlyT.of_below (Below.refl _ _).drew)).setCell HB.out.1 (by decide) HB.out.2.2.2.1).setCell h1.1 (by decide) h1.2.2.2.1

theorem diskAt_bits (h : DiskAt w base D { st with armed := 0, bits := 0 }) (h0 : 0 ≤ st.bits) (h1 : st.bits < 18446744073709551616) : DiskAt w base D { st with armed := 0 } := by
  obtain ⟨S, cv, secs, b, hB, hs, hb⟩ := h
  exact ⟨S, cv, secs, b, hB, ⟨hs.kept, hs.last, { hs.ok with bits0 := h0, bits1 := h1 }⟩, fun h => absurd h (by simp), hb.2⟩

set_option maxHeartbeats 400000 in
set_option maxRecDepth 100000 in
theorem dstart_is (h : DiskAt w base D st) :
    Calls Try.prog 22 #[.pointer (some ⟨D, 0, none⟩)] w fun e w' => e = .returned (.tuple #[]) ∧ DiskAt w' base D (startS st) ∧ OnlyT base progT w w' := by
  obtain ⟨S, cv, secs, b, hB, hs, hb⟩ := h
  have c5 := hB.cell 5
  have f5 := hB.free 5
  simp at c5
  have HD := Lib.hid (show DiskAt (w.setCell ⟨D, 5, none⟩ (.bool false)) base D { st with off := false } from ⟨S, cv, secs, b, by simpa using hB.set 5 (.bool false), ⟨hs.kept, hs.last, { hs.ok with }⟩, hb⟩)
  have HO := Lib.hid ((OnlyT.refl (base := base) (T := progT) (w := w)).setCell (i := 5) (v := .bool false) hB.1 (by decide) hB.2.2.2.1)
  have H0 := Lib.hid hs.ok.bits0
  have H1 := Lib.hid hs.ok.bits1
  clear hB hs hb
  go_enter Try.func22, Try.ntmps22
  go_wp2_with fail
  refine (darm_is HD.out 0 0 (by omega) (by omega) (by omega)).mono ?_
  rintro e w2 ⟨rfl, hd2, ho2⟩
  go_wp2_with fail
  go_end0
  exact ⟨rfl, diskAt_bits hd2 H0.out H1.out, HO.out.trans ho2⟩

set_option maxHeartbeats 400000 in
set_option maxRecDepth 100000 in
theorem dnew_no (n : Int) (w : World) (hn : n < 1 ∨ 4096 < n) :
    Calls Try.prog 9 #[.int .i64 n] w fun e w' => e = .returned (.tuple #[.pointer none, .int .i64 1]) ∧ Below w.heap.size w w' := by
  rcases hn with hn | hn
  · go_enter Try.func9, Try.ntmps9
    go_wp2_with fail
    go_ret2
    exact ⟨rfl, Below.refl _ _⟩
  · have h1 : ¬ n < 1 := by omega
    go_enter Try.func9, Try.ntmps9
    go_wp2_with fail
    go_ret2
    exact ⟨rfl, Below.refl _ _⟩

set_option maxHeartbeats 400000 in
set_option maxRecDepth 100000 in
theorem dnew_yes (n : Nat) (w : World) (h1 : 1 ≤ n) (h2 : n ≤ 4096) :
    Calls Try.prog 9 #[.int .i64 n] w fun e w' => ∃ D, e = .returned (.tuple #[.pointer (some ⟨D, 0, none⟩), .int .i64 0]) ∧ DiskAt w' w.heap.size D (newS n) ∧ Below w.heap.size w w' := by
  obtain ⟨i0, hi0, hz0, hz1, hz2⟩ := info_parts info_sec
  have hmk := run_make (P := Try.prog) w 62 98 i0 _ Try.underlying62 hi0 hz0 .i64 .i64 n n (by omega) (by omega) (by rw [hz2]; omega) (by omega)
  rw [hz1, Int.toNat_natCast] at hmk
  have e0 : madeCells (Value.agg secZ.toArray).cells (n * 65) = ((List.replicate n ((zeroB 64, 0) : ByteArray × Int)).flatMap secC).toArray := by
    rw [show (Value.agg secZ.toArray).cells = secZ.toArray from rfl, made_flat secZ 65 (by simp [secZ]) (by omega), flat_repl]
  rw [e0] at hmk
  obtain ⟨cs, hcs⟩ : ∃ cs, cs = ((List.replicate n ((zeroB 64, 0) : ByteArray × Int)).flatMap secC).toArray := ⟨_, rfl⟩
  rw [← hcs] at hmk
  have HCS := Lib.hid hcs
  clear hcs e0 hi0 hz0 hz1 hz2
  have n1 : ¬ (n : Int) < 1 := by omega
  have n2 : ¬ (4096 : Int) < n := by omega
  go_enter Try.func9, Try.ntmps9
  go_wp2_with fail
  go_ret2
  have hS : ((w.alloc (.cells cs 98)).alloc (.cells #[.slice (some ⟨w.heap.size, 0, none⟩) n n, .slice none 0 0, .int .i64 0, .int .i64 0, .int .u64 0, .bool false] 65)).heap[w.heap.size]? = some (.cells cs 98 (0, 0)) := by
    show ((w.heap.push _).push _)[w.heap.size]? = _
    rw [Array.getElem?_push, if_neg (by simp), Array.getElem?_push, if_pos rfl]
  have hD : ((w.alloc (.cells cs 98)).alloc (.cells #[.slice (some ⟨w.heap.size, 0, none⟩) n n, .slice none 0 0, .int .i64 0, .int .i64 0, .int .u64 0, .bool false] 65)).heap[w.heap.size + 1]? = some (.cells #[.slice (some ⟨w.heap.size, 0, none⟩) n n, .slice none 0 0, .int .i64 0, .int .i64 0, .int .u64 0, .bool false] 65 (0, 0)) := by
    show ((w.heap.push _).push _)[w.heap.size + 1]? = _
    rw [Array.getElem?_push, if_pos (by simp)]
  refine ⟨w.heap.size + 1, rfl, ⟨w.heap.size, .slice none 0 0, List.replicate n (zeroB 64, 0), 0, ⟨?_, ?_, World.ownsRow_nil _ _ _ _, by omega, Nat.le_refl _⟩, ⟨?_, fun i x hx => ?_, newS_ok h2⟩, fun _ => rfl, Int.le_refl _, by decide⟩, ((Below.refl _ _).alloc (Nat.le_refl _) _).alloc (by simp) _⟩
  · simpa [newS] using hD
  · rw [hS, HCS.out]
  · simp [newS]
  · obtain ⟨_, rfl⟩ := List.mem_replicate.1 (List.mem_of_getElem? hx)
    exact .inl ⟨rfl, fun _ => rfl⟩
end
end Go.Proofs.Ytbdgmddlghhkjaa

namespace Go.Proofs.Ytbdgmddlghhkjaa
open Go.RowKit

/-- 'copy(dst, src)' within rows that are known, as one step of a region that draws: the world behind it is told. -/
theorem step_copy_row {P : Program} {ops : Array Oper} {o : Oper} {a : Act} {w : World} {K : Act → World → Prop} {Q : Exit → Act → World → Prop} {E : Prop} (hgd : o.guard = none) (d s : Operand) (dT sT : TypeId)
    (ho : o.op = .call { callee := .builtin .copy, args := #[d, s], argTypes := #[dT, sT] }) (elem : TypeId) (hu : P.underlying dT = some (.slice elem)) (hsz : (P.info? elem).map (·.size) = some 1)
    (g off dLen dCap sLen sCap : Nat) (ad : Addr) (hd : a.eval d = .slice (some ⟨g, off, none⟩) dLen dCap) (hs : a.eval s = .slice (some ad) sLen sCap)
    (cur : List Value) (t : TypeId) (hg : w.heap[g]? = some (.cells cur.toArray t (0, 0))) (cs : List Value) (hn : cs.length = Nat.min sLen dLen) (hsrc : ∀ j v, cs[j]? = some v → w.cell? (ad.add j) = some v)
    (hfit : off + cs.length ≤ cur.length) (h1 : ∀ v ∈ cs, v.oneCell' = true)
    (h : K (a.put o.dst (goInt cs.length)) (w.setRow g (splice cur off cs).toArray)) :
    if Region.wanted o (yielded ops a.tmps) = true then Oper.wp P o a w K Q else E := by
  have hw : Region.wanted o (yielded ops a.tmps) = true := by simp [Region.wanted, hgd]
  rw [if_pos hw]
  by_cases h0 : cs.length = 0
  · obtain rfl : cs = [] := List.eq_nil_of_length_eq_zero h0
    have hrun := run_copy_none (P := P) w dT sT o.type elem (some ⟨g, off, none⟩) (some ad) dLen dCap sLen sCap hu hsz (by simpa using hn.symm)
    have hself : w.setRow g (splice cur off []).toArray = w := by
      rw [show splice cur off [] = cur by simp [splice]]
      exact setRow_self w g _ t (0, 0) hg
    rw [hself] at h
    unfold Oper.wp
    simp [execOp, ho, resolve, invoke, builtin, hd, hs, hrun, Result.andThen]
    exact h
  · have hrun := run_copy_row (P := P) w dT sT o.type elem g off dLen dCap ad sLen sCap cur.toArray t cs hu hsz hg hn hsrc (by simpa using hfit) h1
    unfold Oper.wp
    simp [execOp, ho, resolve, invoke, builtin, hd, hs, hrun, Result.andThen]
    unfold splice at h
    exact h

theorem bytesV_tear (n : Nat) (new old : ByteArray) (hn : n ≤ 64) (h1 : new.size = 64) (h2 : old.size = 64) : bytesV (tearB n new old) = splice (bytesV old) 0 ((bytesV new).take n) := by
  have hb1 := bytesV_len new
  have hb2 := bytesV_len old
  have e : bytesV (tearB n new old) = (bytesV (new.extract 0 n)) ++ bytesV (old.extract n 64) := by
    simp [bytesV, tearB]
  have e1 : bytesV (new.extract 0 n) = (bytesV new).take n := by
    simp [bytesV]
  have e2 : bytesV (old.extract n 64) = (bytesV old).drop n := by
    simp only [bytesV, ByteArray.data_extract, Array.toList_extract, List.extract, List.map_take, List.map_drop]
    rw [List.take_of_length_le]
    rw [List.length_drop, List.length_map, Array.length_toList]
    have : old.data.size = old.size := rfl
    omega
  rw [e, e1, e2]
  simp only [splice, List.take_zero, List.nil_append, Nat.zero_add, List.length_take, hb1, h1]
  rw [show min n 64 = n by omega]
theorem secC_tear {n : Nat} {new old : ByteArray} {l : Int} (hn : n ≤ 64) (h1 : new.size = 64) (h2 : old.size = 64) : secC (tearB n new old, l) = splice (secC (old, l)) 0 ((bytesV new).take n) := by
  have hb1 := bytesV_len new
  have hb2 := bytesV_len old
  simp only [secC]
  rw [bytesV_tear n new old hn h1 h2]
  simp only [splice, List.take_zero, List.nil_append, Nat.zero_add, List.length_take, hb1, h1]
  rw [List.drop_append_of_le_length (by omega)]
  simp

section
variable {w : World} {base D S : Nat} {cs : Array Value} {cv : Value} {secs : List (ByteArray × Int)} {cache : List (Int × ByteArray)}

set_option maxHeartbeats 400000 in
set_option maxRecDepth 100000 in
theorem settle_is (h : DskB w base D S cs cv secs cache) (hcs0 : cs[0]? = some (.slice (some ⟨S, 0, none⟩) secs.length secs.length)) (hcs1 : cs[1]? = some cv) (hss : ∀ x ∈ secs, x.1.size = 64) (hcc : ∀ x ∈ cache, x.2.size = 64)
    {k i n : Nat} {x : Int × ByteArray} {y : ByteArray × Int} (hx : cache[k]? = some x) (hxi : x.1 = i) (hy : secs[i]? = some y) (hn : n ≤ 64) (_hl : cache.length ≤ 1000000) (_hl2 : secs.length ≤ 4096) :
    Calls Try.prog 37 #[.pointer (some ⟨D, 0, none⟩), .int .i64 k, .int .i64 n] w fun e w' => e = .returned (.tuple #[]) ∧ DskB w' base D S cs cv (secs.set i (tearB n x.2 y.1, 0)) cache ∧ OnlyT base progT w w' := by
  have H := Lib.hid h
  obtain ⟨g, cap, ecv, hcell⟩ := h.write_at hcc hx
  subst ecv
  have c0 := h.cell 0
  have c1 := h.cell 1
  rw [hcs0] at c0
  rw [hcs1] at c1
  have hk := (List.getElem?_eq_some_iff.1 hx).1
  have hi := (List.getElem?_eq_some_iff.1 hy).1
  have x0 := hcell 0 (by omega)
  rw [show (wriC x)[0]? = some (.int .i64 i) by rw [← hxi]; rfl] at x0
  simp only [Nat.add_zero] at x0
  have HCELL := Lib.hid hcell
  have i1 : (i : Int) < secs.length := by omega
  have n1 : (n : Int) ≤ 64 := by omega
  have n0 : (0 : Int) ≤ n := by omega
  have k1 : (k : Int) < cache.length := by omega
  clear h hcell hcs0 hcs1
  go_enter Try.func37, Try.ntmps37
  go_wp2_with fail
  go_region
  all_goals go_wp2_with fail
  all_goals
    have hlen : ((bytesV x.2).take n).length = n := by rw [List.length_take, bytesV_len, hcc x (List.mem_of_getElem? hx)]; omega
    have HSRC := Lib.hid (show ∀ j v, ((bytesV x.2).take n)[j]? = some v → w.cell? ((⟨g, k * 65 + 1, none⟩ : Addr).add j) = some v from fun j v hv => by
      have hadd : (⟨g, k * 65 + 1, none⟩ : Addr).add j = ⟨g, k * 65 + (1 + j), none⟩ := by unfold Addr.add; split <;> simp_all [Nat.add_assoc]
      have hj : j < n := by have := (List.getElem?_eq_some_iff.1 hv).1; omega
      rw [hadd, HCELL.out (1 + j) (by omega)]
      rw [List.getElem?_take, if_pos hj] at hv
      rw [Nat.add_comm]
      simpa [wriC] using hv)
    have hrow := flat_splice secC 65 secs (fun x hx => secC_len (hss x hx)) hy (tearB n x.2 y.1, y.2) (j := 0) (cs := (bytesV x.2).take n) (by omega) (by
      have := secC_tear (l := y.2) hn (hcc x (List.mem_of_getElem? hx)) (hss y (List.mem_of_getElem? hy))
      exact this)
    simp only [Nat.add_zero] at hrow
    have HFIT := Lib.hid (show i * 65 + ((bytesV x.2).take n).length ≤ (secs.flatMap secC).length by rw [flat_len secC 65 secs (fun x hx => secC_len (hss x hx)), hlen]; omega)
    have HONE := Lib.hid (show ∀ v ∈ (bytesV x.2).take n, v.oneCell' = true from fun v hv => bytesV_one _ v (List.mem_of_mem_take hv))
    have HLEN := Lib.hid hlen
    have HROW := Lib.hid hrow
    clear hlen hrow
    obtain ⟨tk, htk⟩ : ∃ tk, tk = (bytesV x.2).take n := ⟨_, rfl⟩
    rw [← htk] at HSRC HFIT HONE HLEN HROW
    clear htk
    go_region_law (refine step_copy_row rfl (.tmp 27) (.tmp 32) 61 61 rfl 5 Try.underlying61 info_byte S (i * 65) n 64 n 64 ⟨g, k * 65 + 1, none⟩ (by simp [Act.eval, go_sem]) (by simp [Act.eval, go_sem]) (secs.flatMap secC) 98 H.out.2.1 tk (by simp [HLEN.out]) HSRC.out HFIT.out HONE.out ?_)
    all_goals
      have HB2 := Lib.hid (show DskB (w.drew.drew.setRow S (splice (secs.flatMap secC) (i * 65) tk).toArray) base D S cs (.slice (some ⟨g, 0, none⟩) cache.length cap) (secs.set i (tearB n x.2 y.1, y.2)) cache from H.out.row (by rw [HROW.out]))
      have hz2 := tearB_size hn (hcc x (List.mem_of_getElem? hx)) (hss y (List.mem_of_getElem? hy))
      have hss2 : ∀ z ∈ secs.set i (tearB n x.2 y.1, y.2), z.1.size = 64 := fun z hz => by
        rcases List.mem_or_eq_of_mem_set hz with h | rfl
        · exact hss z h
        · exact hz2
      have hxs2 : (secs.set i (tearB n x.2 y.1, y.2))[i]? = some (tearB n x.2 y.1, y.2) := by rw [List.getElem?_set_self (by omega)]
      have HSS2 := Lib.hid hss2
      obtain ⟨m2, m2f⟩ := HB2.out.sec_at hss2 hxs2 (j := 64) (by omega)
      obtain ⟨y2, hy2⟩ : ∃ v, (secC (tearB n x.2 y.1, y.2))[64]? = some v := ⟨_, List.getElem?_eq_getElem (by rw [secC_len hz2]; omega)⟩
      rw [hy2] at m2
      clear hy2 hz2 hss2 c0 c1 x0
      go_wp2_with fail
      go_end0
      have HB3 := HB2.out.putLast HSS2.out hxs2 0
      rw [List.set_set] at HB3
      refine ⟨rfl, HB3, ?_⟩
      exact (((OnlyT.refl (base := base) (T := progT) (w := w)).trans (OnlyT.of_below (Below.refl _ _).drew.drew)).setRow (cur := (splice (secs.flatMap secC) (i * 65) tk).toArray) H.out.2.1 (by decide) H.out.2.2.2.2).setCell (i := i * 65 + 64) (v := .int .i64 0) HB2.out.2.1 (by decide) HB2.out.2.2.2.2
end
end Go.Proofs.Ytbdgmddlghhkjaa
