/-
  What the program's disk (package disk) does where a write of its cache is settled: the first n bytes of it are kept, and its sector has none there any more. No conditions but how it lies in memory.
-/
import Derived.Test.YtabjpmofakdacaaDiskM
namespace Go.Proofs.Ytabjpmofakdacaa
open Go.RowKit

/-- 'copy(dst, src)' within rows that are known, as one step of a region that draws: the world behind it is told. -/
theorem step_copy_row {P : Program} {ops : Array Oper} {o : Oper} {a : Act} {w : World} {K : Act → World → Prop} {Q : Exit → Act → World → Prop} {E : Prop} (hgd : o.guard = none) (d s : Operand) (dT sT : TypeId)
    (ho : o.op = .call { callee := .builtin .copy, args := #[d, s], argTypes := #[dT, sT] }) (elem : TypeId) (hu : P.underlying dT = some (.slice elem)) (hsz : (P.info? elem).map (·.size) = some 1)
    (g off dLen dCap sLen sCap : Nat) (ad : Addr) (hd : a.eval d = .slice (some ⟨g, off, none⟩) dLen dCap) (hs : a.eval s = .slice (some ad) sLen sCap)
    (cur : List Value) (t : TypeId) (hg : w.heap[g]? = some (.cells cur.toArray t (0, 0))) (cs : List Value) (hn : cs.length = Nat.min sLen dLen) (hsrc : ∀ j v, cs[j]? = some v → w.cell? (ad.add j) = some v)
    (hfit : off + cs.length ≤ cur.length) (h1 : ∀ v ∈ cs, v.oneCell' = true)
    (h : K (a.put o.dst (goInt cs.length)) (w.setRow g (splice cur off cs).toArray)) :
    if Region.wanted o (yielded ops a.tmps) = true then Oper.wp P o a w K Q else E := by
  have hw : Region.wanted o (yielded ops a.tmps) = true := by simp [Region.wanted, hgd]
  rw [if_pos hw]
  by_cases h0 : cs.length = 0
  · obtain rfl : cs = [] := List.eq_nil_of_length_eq_zero h0
    have hrun := run_copy_none (P := P) w dT sT o.type elem (some ⟨g, off, none⟩) (some ad) dLen dCap sLen sCap hu hsz (by simpa using hn.symm)
    have hself : w.setRow g (splice cur off []).toArray = w := by
      rw [show splice cur off [] = cur by simp [splice]]
      exact setRow_self w g _ t (0, 0) hg
    rw [hself] at h
    unfold Oper.wp
    simp [execOp, ho, resolve, invoke, builtin, hd, hs, hrun, Result.andThen]
    exact h
  · have hrun := run_copy_row (P := P) w dT sT o.type elem g off dLen dCap ad sLen sCap cur.toArray t cs hu hsz hg hn hsrc (by simpa using hfit) h1
    unfold Oper.wp
    simp [execOp, ho, resolve, invoke, builtin, hd, hs, hrun, Result.andThen]
    unfold splice at h
    exact h

theorem bytesV_tear (n : Nat) (new old : ByteArray) (hn : n ≤ 64) (h1 : new.size = 64) (h2 : old.size = 64) : bytesV (tearB n new old) = splice (bytesV old) 0 ((bytesV new).take n) := by
  have hb1 := bytesV_len new
  have hb2 := bytesV_len old
  have e : bytesV (tearB n new old) = (bytesV (new.extract 0 n)) ++ bytesV (old.extract n 64) := by
    simp [bytesV, tearB]
  have e1 : bytesV (new.extract 0 n) = (bytesV new).take n := by
    simp [bytesV]
  have e2 : bytesV (old.extract n 64) = (bytesV old).drop n := by
    simp only [bytesV, ByteArray.data_extract, Array.toList_extract, List.extract, List.map_take, List.map_drop]
    rw [List.take_of_length_le]
    rw [List.length_drop, List.length_map, Array.length_toList]
    have : old.data.size = old.size := rfl
    omega
  rw [e, e1, e2]
  simp only [splice, List.take_zero, List.nil_append, Nat.zero_add, List.length_take, hb1, h1]
  rw [show min n 64 = n by omega]
theorem secC_tear {n : Nat} {new old : ByteArray} {l : Int} (hn : n ≤ 64) (h1 : new.size = 64) (h2 : old.size = 64) : secC (tearB n new old, l) = splice (secC (old, l)) 0 ((bytesV new).take n) := by
  have hb1 := bytesV_len new
  have hb2 := bytesV_len old
  simp only [secC]
  rw [bytesV_tear n new old hn h1 h2]
  simp only [splice, List.take_zero, List.nil_append, Nat.zero_add, List.length_take, hb1, h1]
  rw [List.drop_append_of_le_length (by omega)]
  simp

section
variable {w : World} {base D S : Nat} {cs : Array Value} {cv : Value} {secs : List (ByteArray × Int)} {cache : List (Int × ByteArray)}

set_option maxHeartbeats 400000 in
theorem settle_is (h : DskB w base D S cs cv secs cache) (hcs0 : cs[0]? = some (.slice (some ⟨S, 0, none⟩) secs.length secs.length)) (hcs1 : cs[1]? = some cv) (hss : ∀ x ∈ secs, x.1.size = 64) (hcc : ∀ x ∈ cache, x.2.size = 64)
    {k i n : Nat} {x : Int × ByteArray} {y : ByteArray × Int} (hx : cache[k]? = some x) (hxi : x.1 = i) (hy : secs[i]? = some y) (hn : n ≤ 64) (_hl : cache.length ≤ 1000000) (_hl2 : secs.length ≤ 4096) :
    Calls Try.prog 35 #[.pointer (some ⟨D, 0, none⟩), .int .i64 k, .int .i64 n] w fun e w' => e = .returned (.tuple #[]) ∧ DskB w' base D S cs cv (secs.set i (tearB n x.2 y.1, 0)) cache ∧ OnlyT base progT w w' := by
  have H := Lib.hid h
  obtain ⟨g, cap, ecv, hcell⟩ := h.write_at hcc hx
  subst ecv
  have c0 := h.cell 0
  have c1 := h.cell 1
  rw [hcs0] at c0
  rw [hcs1] at c1
  have hk := (List.getElem?_eq_some_iff.1 hx).1
  have hi := (List.getElem?_eq_some_iff.1 hy).1
  have x0 := hcell 0 (by omega)
  rw [show (wriC x)[0]? = some (.int .i64 i) by rw [← hxi]; rfl] at x0
  simp only [Nat.add_zero] at x0
  have HCELL := Lib.hid hcell
  have i1 : (i : Int) < secs.length := by omega
  have n1 : (n : Int) ≤ 64 := by omega
  have n0 : (0 : Int) ≤ n := by omega
  have k1 : (k : Int) < cache.length := by omega
  clear h hcell hcs0 hcs1
  go_enter Try.func35, Try.ntmps35
  go_wp2_with fail
  go_region
  all_goals go_wp2_with fail
  all_goals
    have hlen : ((bytesV x.2).take n).length = n := by rw [List.length_take, bytesV_len, hcc x (List.mem_of_getElem? hx)]; omega
    have HSRC := Lib.hid (show ∀ j v, ((bytesV x.2).take n)[j]? = some v → w.cell? ((⟨g, k * 65 + 1, none⟩ : Addr).add j) = some v from fun j v hv => by
      have hadd : (⟨g, k * 65 + 1, none⟩ : Addr).add j = ⟨g, k * 65 + (1 + j), none⟩ := by unfold Addr.add; split <;> simp_all [Nat.add_assoc]
      have hj : j < n := by have := (List.getElem?_eq_some_iff.1 hv).1; omega
      rw [hadd, HCELL.out (1 + j) (by omega)]
      rw [List.getElem?_take, if_pos hj] at hv
      rw [Nat.add_comm]
      simpa [wriC] using hv)
    have hrow := flat_splice secC 65 secs (fun x hx => secC_len (hss x hx)) hy (tearB n x.2 y.1, y.2) (j := 0) (cs := (bytesV x.2).take n) (by omega) (by
      have := secC_tear (l := y.2) hn (hcc x (List.mem_of_getElem? hx)) (hss y (List.mem_of_getElem? hy))
      exact this)
    simp only [Nat.add_zero] at hrow
    have HFIT := Lib.hid (show i * 65 + ((bytesV x.2).take n).length ≤ (secs.flatMap secC).length by rw [flat_len secC 65 secs (fun x hx => secC_len (hss x hx)), hlen]; omega)
    have HONE := Lib.hid (show ∀ v ∈ (bytesV x.2).take n, v.oneCell' = true from fun v hv => bytesV_one _ v (List.mem_of_mem_take hv))
    have HLEN := Lib.hid hlen
    have HROW := Lib.hid hrow
    clear hlen hrow
    obtain ⟨tk, htk⟩ : ∃ tk, tk = (bytesV x.2).take n := ⟨_, rfl⟩
    rw [← htk] at HSRC HFIT HONE HLEN HROW
    clear htk
    go_region_law (refine step_copy_row rfl (.tmp 27) (.tmp 32) 52 52 rfl 5 Try.underlying52 info_byte S (i * 65) n 64 n 64 ⟨g, k * 65 + 1, none⟩ (by simp [Act.eval, go_sem]) (by simp [Act.eval, go_sem]) (secs.flatMap secC) 74 H.out.2.1 tk (by simp [HLEN.out]) HSRC.out HFIT.out HONE.out ?_)
    all_goals
      have HB2 := Lib.hid (show DskB (w.drew.drew.setRow S (splice (secs.flatMap secC) (i * 65) tk).toArray) base D S cs (.slice (some ⟨g, 0, none⟩) cache.length cap) (secs.set i (tearB n x.2 y.1, y.2)) cache from H.out.row (by rw [HROW.out]))
      have hz2 := tearB_size hn (hcc x (List.mem_of_getElem? hx)) (hss y (List.mem_of_getElem? hy))
      have hss2 : ∀ z ∈ secs.set i (tearB n x.2 y.1, y.2), z.1.size = 64 := fun z hz => by
        rcases List.mem_or_eq_of_mem_set hz with h | rfl
        · exact hss z h
        · exact hz2
      have hxs2 : (secs.set i (tearB n x.2 y.1, y.2))[i]? = some (tearB n x.2 y.1, y.2) := by rw [List.getElem?_set_self (by omega)]
      have HSS2 := Lib.hid hss2
      obtain ⟨m2, m2f⟩ := HB2.out.sec_at hss2 hxs2 (j := 64) (by omega)
      obtain ⟨y2, hy2⟩ : ∃ v, (secC (tearB n x.2 y.1, y.2))[64]? = some v := ⟨_, List.getElem?_eq_getElem (by rw [secC_len hz2]; omega)⟩
      rw [hy2] at m2
      clear hy2 hz2 hss2 c0 c1 x0
      go_wp2_with fail
      go_end0
      have HB3 := HB2.out.putLast HSS2.out hxs2 0
      rw [List.set_set] at HB3
      refine ⟨rfl, HB3, ?_⟩
      exact (((OnlyT.refl (base := base) (T := progT) (w := w)).trans (OnlyT.of_below (Below.refl _ _).drew.drew)).setRow (cur := (splice (secs.flatMap secC) (i * 65) tk).toArray) H.out.2.1 (by decide) H.out.2.2.2.2).setCell (i := i * 65 + 64) (v := .int .i64 0) HB2.out.2.1 (by decide) HB2.out.2.2.2.2
end
end Go.Proofs.Ytabjpmofakdacaa
