/-
  What the document's disk (package lockageref03) does where the power fails, or it is flushed. No conditions but how it lies in memory.
-/
import Derived.Test.YtabjpmofakdacaaDiskB
import Derived.BigRegion
namespace Go.Proofs.Ytabjpmofakdacaa
open Go.RowKit

theorem cell_alloc {w : World} {a : Addr} {v : Value} {o : Obj} (h : w.cell? a = some v) : (w.alloc o).cell? a = some v := by
  rw [World.cell?_alloc_lt _ _ _ (World.block_lt_of_cell? _ _ h)]; exact h

/-- The first k bytes of the new one, and the others of the old one. -/
def tearB (k : Nat) (new old : ByteArray) : ByteArray := new.extract 0 k ++ old.extract k 64
theorem tearB_size {k : Nat} {new old : ByteArray} (hk : k ≤ 64) (h1 : new.size = 64) (h2 : old.size = 64) : (tearB k new old).size = 64 := by
  unfold tearB
  rw [ByteArray.size_append, ByteArray.size_extract, ByteArray.size_extract]
  omega

/-- What is kept once the first k writes of the cache have been put there, of the j-th one so many bytes as f says. -/
def keptTo (f : Nat → Nat) (c : List (Int × ByteArray)) (kept : List ByteArray) : Nat → List ByteArray
  | 0 => kept
  | k + 1 => match c[k]? with
    | some x => (keptTo f c kept k).set x.1.toNat (tearB (f k) x.2 ((keptTo f c kept k).getD x.1.toNat ⟨#[]⟩))
    | none => keptTo f c kept k
theorem keptTo_len (f : Nat → Nat) (c : List (Int × ByteArray)) (kept : List ByteArray) : ∀ k, (keptTo f c kept k).length = kept.length
  | 0 => rfl
  | k + 1 => by
    unfold keptTo
    split
    · rw [List.length_set, keptTo_len f c kept k]
    · exact keptTo_len f c kept k
theorem keptTo_size {f : Nat → Nat} {c : List (Int × ByteArray)} {kept : List ByteArray} (hf : ∀ j, f j ≤ 64) (hk : ∀ s ∈ kept, s.size = 64) (hc : ∀ x ∈ c, 0 ≤ x.1 ∧ x.1 < kept.length ∧ x.2.size = 64) : ∀ k, ∀ s ∈ keptTo f c kept k, s.size = 64
  | 0 => hk
  | k + 1 => by
    have ih := keptTo_size hf hk hc k
    unfold keptTo
    split
    · rename_i x hx
      obtain ⟨h0, h1, h2⟩ := hc x (List.mem_of_getElem? hx)
      intro s hs
      rcases List.mem_or_eq_of_mem_set hs with h | rfl
      · exact ih s h
      · refine tearB_size (hf k) h2 (ih _ ?_)
        have hlt : x.1.toNat < (keptTo f c kept k).length := by rw [keptTo_len]; omega
        simp [hlt]
    · exact ih

def fateF (b : Int) (j : Nat) : Nat := (fateV b j).toNat
theorem fateF_le (b : Int) (j : Nat) : fateF b j ≤ 64 := by have := fateV_range b j; unfold fateF; omega

/-- The power fails. -/
def crashS (st : Dk) (b : Int) : Dk := if st.off then st else { st with kept := keptTo (fateF b) st.cache st.kept st.cache.length, cache := [], off := true }
/-- It is flushed. -/
def flushS (st : Dk) : Dk := if st.off then st else { st with kept := keptTo (fun _ => 64) st.cache st.kept st.cache.length, cache := [] }

section
variable {base R : Nat} {st : Dk} {w : World}
theorem RefB.put {cs : Array Value} {g n cap : Nat} {cv : Value} {kept : List ByteArray} {cache : List (Int × ByteArray)} (h : RefB w base R cs (.slice (some ⟨g, 0, none⟩) kept.length cap) cv kept cache) (i : Nat) (v : ByteArray) (hn : n = (kept.set i v).length) :
    RefB (w.setCell ⟨g, i, none⟩ (.string v)) base R cs (.slice (some ⟨g, 0, none⟩) n cap) cv (kept.set i v) cache ∧ ∃ cur, w.heap[g]? = some (.cells cur 9 (0, 0)) ∧ base ≤ g := by
  obtain ⟨h1, h2, h3⟩ := h
  have hs := h2.stored i (.string v)
  rcases h2.2 with ⟨e, _⟩ | ⟨g', cap', cur, e, hb, hg, _⟩
  · cases e
  · injection e with e
    injection e with e
    injection e with e
    subst e
    have hne : R ≠ g := fun e => by subst e; rw [h1] at hg; injection hg with hg; injection hg with _ ht; exact absurd ht (by decide)
    refine ⟨⟨(Below.heap_setCell w ⟨g, i, none⟩ _ R hne).trans h1, ?_, own_set h3 hg (by decide)⟩, cur, hg, hb⟩
    rw [hn, List.map_set, List.length_set]
    exact hs.1

set_option maxHeartbeats 1000000 in
theorem refcrash_on (h : RefAt w base R st) (b : Int) (hb0 : 0 ≤ b) (hb1 : b < 18446744073709551616) (hn : st.cache.length ≤ 1000000) (ho : st.off = false) :
    Calls Try.prog 22 #[.pointer (some ⟨R, 0, none⟩), .int .u64 b] w fun e w' => e = .returned (.tuple #[]) ∧ RefAt w' base R { st with kept := keptTo (fateF b) st.cache st.kept st.cache.length, cache := [], off := true } ∧ OnlyT base refT w w' := by
  obtain ⟨kv, cv, hR, hb, hk, hc, ok⟩ := h
  have hB : RefB w base R _ kv cv st.kept st.cache := ⟨hR, hk, hc⟩
  have HB := Lib.hid hB
  obtain ⟨A, c, B, d, ek, ec⟩ := hB.lens
  have c0 := hB.cell 0
  have c1 := hB.cell 1
  have c2 := hB.cell 2
  simp [ho] at c0 c1 c2
  clear hR hk hc hB
  subst ec ek
  have HO := Lib.hid ok
  have HOFF := Lib.hid ho
  clear ok ho
  go_enter Try.func22, Try.ntmps22
  go_wp2
  go_loopw [4] (fun j wr => ∃ k : Nat, k ≤ st.cache.length ∧ j = .int .i64 k ∧ RefB wr base R #[.slice A st.kept.length c, .slice B st.cache.length d, .bool false, .int .i64 st.armed, .int .u64 st.bits, .int .i64 st.writes] (.slice A st.kept.length c) (.slice B st.cache.length d) (keptTo (fateF b) st.cache st.kept k) st.cache ∧ OnlyT base refT w wr) (fun j _ => st.cache.length - (intOf j).toNat)
  case atStart => exact ⟨0, Nat.zero_le _, rfl, by have := HB.out; rw [HOFF.out] at this; exact this, OnlyT.refl⟩
  case round =>
    obtain ⟨k, hk, rfl, hB, hO⟩ := hrel
    clear c0 c1 c2
    have HB2 := Lib.hid hB
    have HON := Lib.hid hO
    have c0 := hB.cell 0
    have c1 := hB.cell 1
    have c2 := hB.cell 2
    have f1 := hB.free 1
    have f2 := hB.free 2
    simp at c0 c1 c2
    clear hB hO
    by_cases hlt : k < st.cache.length
    · obtain ⟨q, cap2, e3, x0, x1⟩ := HB2.out.write_at (List.getElem?_eq_getElem hlt)
      have hx := HO.out.at_ _ (List.getElem_mem hlt)
      have hnext : keptTo (fateF b) st.cache st.kept (k + 1) = (keptTo (fateF b) st.cache st.kept k).set (st.cache[k]).1.toNat (tearB (fateF b k) (st.cache[k]).2 ((keptTo (fateF b) st.cache st.kept k).getD (st.cache[k]).1.toNat ⟨#[]⟩)) := by
        rw [keptTo, List.getElem?_eq_getElem hlt]
      have hkl := keptTo_len (fateF b) st.cache st.kept k
      have hks := keptTo_size (f := fateF b) (fateF_le b) HO.out.size HO.out.at_ k
      injection e3 with e3 _ e4
      subst e3 e4
      generalize st.cache[k] = x at x0 x1 hx hnext
      obtain ⟨xa, xs⟩ := x
      simp only at x0 x1 hx hnext
      obtain ⟨i, rfl⟩ : ∃ i : Nat, xa = i := ⟨xa.toNat, by omega⟩
      generalize hkp : keptTo (fateF b) st.cache st.kept k = kept at hkl hks hnext HB2
      clear hkp
      have hi : i < kept.length := by omega
      obtain ⟨g, cap, e5, k0⟩ := HB2.out.kept_at (List.getElem?_eq_getElem hi)
      rw [← hkl] at e5 HB2 c0
      injection e5 with e5 _ e6
      subst e5 e6
      have hsz := hks _ (List.getElem_mem hi)
      have hget : kept.getD (i : Int).toNat ⟨#[]⟩ = kept[i] := by simp [hi]
      rw [hget] at hnext
      generalize kept[i] = old at k0 hsz hnext
      obtain ⟨hx0, hx1, hx2⟩ := hx
      have HN := Lib.hid hnext
      have HKL := Lib.hid hkl
      have fr := fateV_range b k
      obtain ⟨fk, hfk⟩ : ∃ fk : Nat, fateV b k = fk := ⟨(fateV b k).toNat, by omega⟩
      have HFF := Lib.hid (show fateF b k = fk by unfold fateF; omega)
      clear hnext hkl hget hks
      go_wp2_with fail
      refine (reffate_is b k hb0 hb1 (by omega) _).mono ?_
      rintro e w1 ⟨rfl, rfl⟩
      rw [hfk] at fr ⊢
      clear hfk
      have hB3 := Lib.hid (HB2.out.later ((Below.refl _ _).alloc (Nat.le_refl _) (.cells #[.int .i64 (i : Int), .string xs] 69)))
      have d0 := hB3.out.cell 0
      simp at d0
      have d1 : (wr.alloc (.cells #[.int .i64 (i : Int), .string xs] 69)).cell? ⟨g, i, none⟩ = some (.string old) := cell_alloc k0
      have d2 : (wr.alloc (.cells #[.int .i64 (i : Int), .string xs] 69)).frozen? ⟨g, i, none⟩ = false := hB3.out.2.1.frozenAt i
      clear c0 c1 c2 f1 f2 x0 x1 k0
      have fk1 : fk ≤ xs.size := by omega
      have fk2 : fk ≤ old.size := by omega
      have i0 : (0 : Int) ≤ i := by omega
      have i1 : (i : Int) < kept.length := by omega
      go_wp2_with fail
      go_region
      all_goals go_wp2_with fail
      obtain ⟨hput, cur, hcur, hbg⟩ := hB3.out.put (n := kept.length) i (tearB fk xs old) (by simp)
      go_roundw
      case rel =>
        refine ⟨k + 1, by omega, by go_num, ?_, ?_⟩
        · rw [HN.out, HFF.out, ← HKL.out]
          exact hput
        · exact (((HON.out.alloc _).setCell hcur (by decide) hbg).trans (OnlyT.of_below (Below.refl _ _).drew))
      case measure => simp [intOf]; omega
    · obtain rfl : k = st.cache.length := by omega
      go_wp2_with fail
      go_end0
      have h1 := HB2.out.set 1 (.slice none 0 0)
      have h2 := h1.set 2 (.bool true)
      refine ⟨rfl, ⟨_, .slice none 0 0, by simpa using h2.1, hb, by rw [keptTo_len]; have := h2.2.1; rw [keptTo_len] at this; exact this, World.ownsRow_nil _ _ _ _, ?_⟩, (HON.out.setCell HB2.out.1 refT_disk hb).setCell h1.1 refT_disk hb⟩
      exact { HO.out with size := keptTo_size (fateF_le b) HO.out.size HO.out.at_ _, few := by simp only [keptTo_len]; exact HO.out.few, at_ := fun x hx => absurd hx List.not_mem_nil }

set_option maxHeartbeats 400000 in
theorem refcrash_off (h : RefAt w base R st) (b : Int) (ho : st.off = true) :
    Calls Try.prog 22 #[.pointer (some ⟨R, 0, none⟩), .int .u64 b] w fun e w' => e = .returned (.tuple #[]) ∧ RefAt w' base R st ∧ OnlyT base refT w w' := by
  have H := Lib.hid h
  obtain ⟨kv, cv, hR, hb, hk, hc, ok⟩ := h
  have c2 := (show RefB w base R _ kv cv st.kept st.cache from ⟨hR, hk, hc⟩).cell 2
  simp [ho] at c2
  clear hR hk hc ho
  go_enter Try.func22, Try.ntmps22
  go_wp2
  refine bodyPost_ret (by simp [results, Try.results22]) rfl ⟨rfl, H.out, OnlyT.refl⟩

theorem refcrash_is (h : RefAt w base R st) (b : Int) (hb0 : 0 ≤ b) (hb1 : b < 18446744073709551616) (hn : st.cache.length ≤ 1000000) :
    Calls Try.prog 22 #[.pointer (some ⟨R, 0, none⟩), .int .u64 b] w fun e w' => e = .returned (.tuple #[]) ∧ RefAt w' base R (crashS st b) ∧ OnlyT base refT w w' := by
  cases ho : st.off
  · have := refcrash_on h b hb0 hb1 hn ho
    simpa [crashS, ho] using this
  · have := refcrash_off h b ho
    simpa [crashS, ho] using this

theorem empty_of_size {s : ByteArray} (h : s.size = 0) : s = ByteArray.empty := ByteArray.ext (Array.eq_empty_of_size_eq_zero h)
theorem extract_all {s : ByteArray} (h : s.size = 64) : s.extract 0 64 = s := by
  rw [← h]; exact ByteArray.extract_zero_size
theorem tear64 {new old : ByteArray} (h1 : new.size = 64) (h2 : old.size = 64) : tearB 64 new old = new := by
  unfold tearB
  rw [extract_all h1, show old.extract 64 64 = ByteArray.empty from empty_of_size (by rw [ByteArray.size_extract]; omega)]
  exact ByteArray.append_empty

end
end Go.Proofs.Ytabjpmofakdacaa
