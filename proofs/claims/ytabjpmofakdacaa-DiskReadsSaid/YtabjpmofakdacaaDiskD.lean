/-
  What the document's disk (package lockageref03) does where it is flushed, or written. No conditions but how it lies in memory.
-/
import Derived.Test.YtabjpmofakdacaaDiskC
import Derived.OwnWalk
namespace Go.Proofs.Ytabjpmofakdacaa
open Go.RowKit

section
variable {base R : Nat} {st : Dk} {w : World}
set_option maxHeartbeats 1000000 in
theorem refflush_on (h : RefAt w base R st) (hn : st.cache.length ≤ 1000000) (ho : st.off = false) :
    Calls Try.prog 16 #[.pointer (some ⟨R, 0, none⟩)] w fun e w' => e = .returned (.int .i64 0) ∧ RefAt w' base R { st with kept := keptTo (fun _ => 64) st.cache st.kept st.cache.length, cache := [] } ∧ OnlyT base refT w w' := by
  obtain ⟨kv, cv, hR, hb, hk, hc, ok⟩ := h
  have hB : RefB w base R _ kv cv st.kept st.cache := ⟨hR, hk, hc⟩
  have HB := Lib.hid hB
  obtain ⟨A, c, B, d, ek, ec⟩ := hB.lens
  have c0 := hB.cell 0
  have c1 := hB.cell 1
  have c2 := hB.cell 2
  simp [ho] at c0 c1 c2
  clear hR hk hc hB
  subst ec ek
  have HO := Lib.hid ok
  have HOFF := Lib.hid ho
  clear ok ho
  go_enter Try.func16, Try.ntmps16
  go_wp2
  go_loopw [3] (fun j wr => ∃ k : Nat, k ≤ st.cache.length ∧ j = .int .i64 k ∧ RefB wr base R #[.slice A st.kept.length c, .slice B st.cache.length d, .bool st.off, .int .i64 st.armed, .int .u64 st.bits, .int .i64 st.writes] (.slice A st.kept.length c) (.slice B st.cache.length d) (keptTo (fun _ => 64) st.cache st.kept k) st.cache ∧ OnlyT base refT w wr) (fun j _ => st.cache.length - (intOf j).toNat)
  case atStart => exact ⟨0, Nat.zero_le _, rfl, HB.out, OnlyT.refl⟩
  case round =>
    obtain ⟨k, hk, rfl, hB, hO⟩ := hrel
    clear c0 c1 c2
    have HB2 := Lib.hid hB
    have HON := Lib.hid hO
    have c0 := hB.cell 0
    have c1 := hB.cell 1
    have f1 := hB.free 1
    simp at c0 c1
    clear hB hO
    by_cases hlt : k < st.cache.length
    · obtain ⟨q, cap2, e3, x0, x1⟩ := HB2.out.write_at (List.getElem?_eq_getElem hlt)
      have hx := HO.out.at_ _ (List.getElem_mem hlt)
      have hnext : keptTo (fun _ => 64) st.cache st.kept (k + 1) = (keptTo (fun _ => 64) st.cache st.kept k).set (st.cache[k]).1.toNat (tearB 64 (st.cache[k]).2 ((keptTo (fun _ => 64) st.cache st.kept k).getD (st.cache[k]).1.toNat ⟨#[]⟩)) := by
        rw [keptTo, List.getElem?_eq_getElem hlt]
      have hkl := keptTo_len (fun _ => 64) st.cache st.kept k
      have hks := keptTo_size (f := fun _ => 64) (fun _ => Nat.le_refl _) HO.out.size HO.out.at_ k
      injection e3 with e3 _ e4
      subst e3 e4
      generalize st.cache[k] = x at x0 x1 hx hnext
      obtain ⟨xa, xs⟩ := x
      simp only at x0 x1 hx hnext
      obtain ⟨i, rfl⟩ : ∃ i : Nat, xa = i := ⟨xa.toNat, by omega⟩
      generalize hkp : keptTo (fun _ => 64) st.cache st.kept k = kept at hkl hks hnext HB2
      clear hkp
      have hi : i < kept.length := by omega
      obtain ⟨g, cap, e5, k0⟩ := HB2.out.kept_at (List.getElem?_eq_getElem hi)
      rw [← hkl] at e5 HB2 c0
      injection e5 with e5 _ e6
      subst e5 e6
      have hsz := hks _ (List.getElem_mem hi)
      have hget : kept.getD (i : Int).toNat ⟨#[]⟩ = kept[i] := by simp [hi]
      obtain ⟨hx0, hx1, hx2⟩ := hx
      rw [hget, tear64 hx2 hsz] at hnext
      generalize kept[i] = old at k0 hsz
      have HN := Lib.hid hnext
      have HKL := Lib.hid hkl
      clear hnext hkl hget hks
      have d2 : wr.frozen? ⟨g, i, none⟩ = false := HB2.out.2.1.frozenAt i
      have i0 : (0 : Int) ≤ i := by omega
      have i1 : (i : Int) < kept.length := by omega
      go_wp2_with fail
      go_region
      all_goals go_wp2_with fail
      obtain ⟨hput, cur, hcur, hbg⟩ := HB2.out.put (n := kept.length) i xs (by simp)
      go_roundw
      case rel =>
        refine ⟨k + 1, by omega, by go_num, ?_, ?_⟩
        · rw [HN.out, ← HKL.out]
          exact hput
        · exact ((HON.out.setCell hcur (by decide) hbg).trans (OnlyT.of_below (Below.refl _ _).drew))
      case measure => simp [intOf]; omega
    · obtain rfl : k = st.cache.length := by omega
      go_wp2_with fail
      go_ret
      have h1 := HB2.out.set 1 (.slice none 0 0)
      refine ⟨rfl, ⟨_, .slice none 0 0, by simpa using h1.1, hb, by rw [keptTo_len]; have := h1.2.1; rw [keptTo_len] at this; exact this, World.ownsRow_nil _ _ _ _, ?_⟩, HON.out.setCell HB2.out.1 refT_disk hb⟩
      exact { HO.out with size := keptTo_size (fun _ => Nat.le_refl _) HO.out.size HO.out.at_ _, few := by simp only [keptTo_len]; exact HO.out.few, at_ := fun x hx => absurd hx List.not_mem_nil }

def flushE (st : Dk) : Int := if st.off then 5 else 0
set_option maxHeartbeats 400000 in
theorem refflush_off (h : RefAt w base R st) (ho : st.off = true) :
    Calls Try.prog 16 #[.pointer (some ⟨R, 0, none⟩)] w fun e w' => e = .returned (.int .i64 5) ∧ RefAt w' base R st ∧ OnlyT base refT w w' := by
  have H := Lib.hid h
  obtain ⟨kv, cv, hR, hb, hk, hc, ok⟩ := h
  have c2 := (show RefB w base R _ kv cv st.kept st.cache from ⟨hR, hk, hc⟩).cell 2
  simp [ho] at c2
  clear hR hk hc ho
  go_enter Try.func16, Try.ntmps16
  go_wp2
  go_ret
  exact ⟨rfl, H.out, OnlyT.refl⟩
theorem refflush_is (h : RefAt w base R st) (hn : st.cache.length ≤ 1000000) :
    Calls Try.prog 16 #[.pointer (some ⟨R, 0, none⟩)] w fun e w' => e = .returned (.int .i64 (flushE st)) ∧ RefAt w' base R (flushS st) ∧ OnlyT base refT w w' := by
  cases ho : st.off
  · have := refflush_on h hn ho
    simpa [flushS, flushE, ho] using this
  · have := refflush_off h ho
    simpa [flushS, flushE, ho] using this

end
end Go.Proofs.Ytabjpmofakdacaa
