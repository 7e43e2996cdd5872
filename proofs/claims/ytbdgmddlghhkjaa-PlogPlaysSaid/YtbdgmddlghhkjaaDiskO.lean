/-
  What the program's disk (package disk) does where it is flushed, and where its power fails. No conditions but how it lies in memory.
-/
import Derived.Test.YtbdgmddlghhkjaaDiskN
namespace Go.Proofs.Ytbdgmddlghhkjaa
open Go.RowKit

section
variable {w : World} {base D : Nat} {st : Dk} {f : Nat → Nat} {k i : Nat} {secs : List (ByteArray × Int)} {x : Int × ByteArray} {y : ByteArray × Int}

/-- The first k writes of the cache are settled. -/
structure SetOk (f : Nat → Nat) (st : Dk) (k : Nat) (secs : List (ByteArray × Int)) : Prop where
  kept : secs.map (·.1) = keptTo f st.cache st.kept k
  last : ∀ (j : Nat) (y : ByteArray × Int), secs[j]? = some y → y.2 = 0 ∨ ∃ (q : Nat) (x : Int × ByteArray), y.2 = q + 1 ∧ k ≤ q ∧ st.cache[q]? = some x ∧ x.1 = j
theorem SetOk.start (h : SecOk secs st) : SetOk f st 0 secs := ⟨h.kept, fun j y hy => by
  rcases h.last j y hy with ⟨h0, _⟩ | ⟨q, x, h1, h2, h3, _⟩
  · exact .inl h0
  · exact .inr ⟨q, x, h1, by omega, h2, h3⟩⟩
theorem SetOk.next (h : SetOk f st k secs) (hx : st.cache[k]? = some x) (hxi : x.1 = i) (hy : secs[i]? = some y) : SetOk f st (k + 1) (secs.set i (tearB (f k) x.2 y.1, 0)) := by
  have hi : i < secs.length := (List.getElem?_eq_some_iff.1 hy).1
  refine ⟨?_, fun j z hz => ?_⟩
  · rw [List.map_set, h.kept, keptTo, hx]
    have e : x.1.toNat = i := by omega
    have hg : (keptTo f st.cache st.kept k).getD i ⟨#[]⟩ = y.1 := by
      rw [← h.kept]
      simp [hy]
    simp only [e, hg]
  · by_cases e : i = j
    · subst e
      rw [List.getElem?_set_self hi] at hz
      obtain rfl := Option.some.inj hz
      exact .inl rfl
    · rw [List.getElem?_set_ne e] at hz
      rcases h.last j z hz with h0 | ⟨q, x', h1, h2, h3, h4⟩
      · exact .inl h0
      · refine .inr ⟨q, x', h1, ?_, h3, h4⟩
        rcases Nat.lt_or_ge k q with h5 | h5
        · omega
        · have : q = k := by omega
          subst this
          rw [hx] at h3
          obtain rfl := Option.some.inj h3
          omega
theorem SetOk.len (h : SetOk f st k secs) : secs.length = st.kept.length := by
  have := congrArg List.length h.kept
  rw [List.length_map, keptTo_len] at this
  exact this
theorem SetOk.size (h : SetOk f st k secs) (ok : st.Ok) (hf : ∀ j, f j ≤ 64) : ∀ z ∈ secs, z.1.size = 64 := fun z hz =>
  keptTo_size hf ok.size ok.at_ k _ (by rw [← h.kept]; exact List.mem_map_of_mem hz)
theorem SetOk.done (h : SetOk f st st.cache.length secs) (ok : st.Ok) (hf : ∀ j, f j ≤ 64) (o : Bool) : SecOk secs { st with kept := keptTo f st.cache st.kept st.cache.length, cache := [], off := o } := by
  refine ⟨h.kept, fun j z hz => ?_, ?_⟩
  · rcases h.last j z hz with h0 | ⟨q, x, h1, h2, h3, h4⟩
    · exact .inl ⟨h0, fun _ => rfl⟩
    · have := (List.getElem?_eq_some_iff.1 h3).1
      omega
  · exact { ok with size := keptTo_size hf ok.size ok.at_ _, few := by simp only [keptTo_len]; exact ok.few, at_ := fun x hx => absurd hx List.not_mem_nil }

set_option maxHeartbeats 1000000 in
set_option maxRecDepth 100000 in
theorem dflush_on (h : DiskAt w base D st) (hn : st.cache.length ≤ 1000000) (ho : st.off = false) :
    Calls Try.prog 58 #[.pointer (some ⟨D, 0, none⟩)] w fun e w' => e = .returned (.int .i64 0) ∧ DiskAt w' base D { st with kept := keptTo (fun _ => 64) st.cache st.kept st.cache.length, cache := [] } ∧ OnlyT base progT w w' := by
  obtain ⟨S, cv, secs, b, hB, hs, hb⟩ := h
  have HO := Lib.hid hs
  have HBB := Lib.hid hb
  obtain ⟨B, cap, ecv⟩ := hB.lens
  have HB := Lib.hid hB
  have c1 := hB.cell 1
  have c5 := hB.cell 5
  simp [ho] at c1 c5
  have hlen := hs.len
  clear hB hs hb
  subst ecv
  obtain ⟨cs, hcs⟩ : ∃ cs : Array Value, cs = #[.slice (some ⟨S, 0, none⟩) secs.length secs.length, .slice B st.cache.length cap, .int .i64 st.writes, .int .i64 st.armed, .int .u64 b, .bool st.off] := ⟨_, rfl⟩
  rw [← hcs] at HB
  have HCS := Lib.hid hcs
  clear hcs
  go_enter Try.func58, Try.ntmps58
  go_wp2
  go_loopw [17] (fun j wr => ∃ (k : Nat) (sk : List (ByteArray × Int)), k ≤ st.cache.length ∧ j = .int .i64 k ∧ DskB wr base D S cs (.slice B st.cache.length cap) sk st.cache ∧ SetOk (fun _ => 64) st k sk ∧ OnlyT base progT w wr) (fun j _ => st.cache.length - (intOf j).toNat)
  case atStart => exact ⟨0, secs, Nat.zero_le _, rfl, HB.out, SetOk.start HO.out, OnlyT.refl⟩
  case round =>
    obtain ⟨k, sk, hk, rfl, hB, hS, hO⟩ := hrel
    clear c1 c5
    have HB2 := Lib.hid hB
    have HS := Lib.hid hS
    have HON := Lib.hid hO
    clear hB hS hO
    by_cases hlt : k < st.cache.length
    · obtain ⟨x, hx⟩ : ∃ x, st.cache[k]? = some x := ⟨_, List.getElem?_eq_getElem hlt⟩
      have hxa := HO.out.ok.at_ x (List.mem_of_getElem? hx)
      obtain ⟨i, hxi⟩ : ∃ i : Nat, x.1 = i := ⟨x.1.toNat, by omega⟩
      have hsl := HS.out.len
      obtain ⟨y, hy⟩ : ∃ y, sk[i]? = some y := ⟨_, List.getElem?_eq_getElem (by omega)⟩
      have HC := Lib.hid (settle_is HB2.out (by rw [HCS.out, hsl, hlen]; rfl) (by rw [HCS.out]; rfl) (HS.out.size HO.out.ok (fun _ => Nat.le_refl _)) (fun z hz => (HO.out.ok.at_ z hz).2.2) hx hxi hy (Nat.le_refl 64) hn (by have := HO.out.ok.few; omega))
      have HN := Lib.hid (HS.out.next hx hxi hy)
      clear hx hxa hxi hsl hy
      go_wp2_with fail
      refine HC.out.mono ?_
      rintro e w2 ⟨rfl, hb2, ho2⟩
      have HB3 := Lib.hid hb2
      have HO3 := Lib.hid (HON.out.trans ho2)
      clear hb2 ho2
      go_wp2_with fail
      go_roundw
      case rel => exact ⟨k + 1, _, by omega, by go_num, HB3.out, HN.out, HO3.out⟩
      case measure => simp [intOf]; omega
    · obtain rfl : k = st.cache.length := by omega
      have f1 := HB2.out.free 1
      have c1 := HB2.out.cell 1
      rw [HCS.out] at c1
      simp at c1
      go_wp2_with fail
      go_ret
      have h1 := HB2.out.set 1 (.slice none 0 0)
      refine ⟨rfl, ⟨S, .slice none 0 0, sk, b, ?_, HS.out.done HO.out.ok (fun _ => Nat.le_refl _) st.off, HBB.out⟩, HON.out.setCell HB2.out.1 (by decide) HB2.out.2.2.2.1⟩
      rw [HCS.out] at h1
      have hsl := HS.out.len
      rw [hsl, ← hlen]
      exact ⟨by simpa using h1.1, h1.2.1, World.ownsRow_nil _ _ _ _, h1.2.2.2⟩

set_option maxHeartbeats 1000000 in
set_option maxRecDepth 100000 in
theorem dcrash_on (h : DiskAt w base D st) (c : Int) (hc0 : 0 ≤ c) (hc1 : c < 18446744073709551616) (hn : st.cache.length ≤ 1000000) (ho : st.off = false) :
    Calls Try.prog 23 #[.pointer (some ⟨D, 0, none⟩), .int .u64 c] w fun e w' => e = .returned (.tuple #[]) ∧ DiskAt w' base D { st with kept := keptTo (fateF c) st.cache st.kept st.cache.length, cache := [], off := true } ∧ OnlyT base progT w w' := by
  obtain ⟨S, cv, secs, b, hB, hs, hb⟩ := h
  have HO := Lib.hid hs
  have HBB := Lib.hid hb
  obtain ⟨B, cap, ecv⟩ := hB.lens
  have HB := Lib.hid hB
  have c1 := hB.cell 1
  have c5 := hB.cell 5
  simp [ho] at c1 c5
  have hlen := hs.len
  clear hB hs hb
  subst ecv
  obtain ⟨cs, hcs⟩ : ∃ cs : Array Value, cs = #[.slice (some ⟨S, 0, none⟩) secs.length secs.length, .slice B st.cache.length cap, .int .i64 st.writes, .int .i64 st.armed, .int .u64 b, .bool st.off] := ⟨_, rfl⟩
  rw [← hcs] at HB
  have HCS := Lib.hid hcs
  clear hcs
  go_enter Try.func23, Try.ntmps23
  go_wp2
  go_loopw [18] (fun j wr => ∃ (k : Nat) (sk : List (ByteArray × Int)), k ≤ st.cache.length ∧ j = .int .i64 k ∧ DskB wr base D S cs (.slice B st.cache.length cap) sk st.cache ∧ SetOk (fateF c) st k sk ∧ OnlyT base progT w wr) (fun j _ => st.cache.length - (intOf j).toNat)
  case atStart => exact ⟨0, secs, Nat.zero_le _, rfl, HB.out, SetOk.start HO.out, OnlyT.refl⟩
  case round =>
    obtain ⟨k, sk, hk, rfl, hB, hS, hO⟩ := hrel
    clear c1 c5
    have HB2 := Lib.hid hB
    have HS := Lib.hid hS
    have HON := Lib.hid hO
    clear hB hS hO
    by_cases hlt : k < st.cache.length
    · obtain ⟨x, hx⟩ : ∃ x, st.cache[k]? = some x := ⟨_, List.getElem?_eq_getElem hlt⟩
      have hxa := HO.out.ok.at_ x (List.mem_of_getElem? hx)
      obtain ⟨i, hxi⟩ : ∃ i : Nat, x.1 = i := ⟨x.1.toNat, by omega⟩
      have hsl := HS.out.len
      obtain ⟨y, hy⟩ : ∃ y, sk[i]? = some y := ⟨_, List.getElem?_eq_getElem (by omega)⟩
      have HC := Lib.hid (settle_is HB2.out (by rw [HCS.out, hsl, hlen]; rfl) (by rw [HCS.out]; rfl) (HS.out.size HO.out.ok (fateF_le c)) (fun z hz => (HO.out.ok.at_ z hz).2.2) hx hxi hy (fateF_le c k) hn (by have := HO.out.ok.few; omega))
      have HN := Lib.hid (HS.out.next hx hxi hy)
      have fr := fateV_range c k
      have hfk : fateV c k = (fateF c k : Int) := by unfold fateF; omega
      generalize fateF c k = fk at HC HN hfk
      clear hx hxa hxi hsl hy
      go_wp2_with fail
      refine (dfate_is c k hc0 hc1 (by omega) _).mono ?_
      rintro e _ ⟨rfl, rfl⟩
      rw [hfk]
      clear hfk fr
      go_wp2_with fail
      refine HC.out.mono ?_
      rintro e w2 ⟨rfl, hb2, ho2⟩
      have HB3 := Lib.hid hb2
      have HO3 := Lib.hid (HON.out.trans ho2)
      clear hb2 ho2
      go_wp2_with fail
      go_roundw
      case rel => exact ⟨k + 1, _, by omega, by go_num, HB3.out, HN.out, HO3.out⟩
      case measure => simp [intOf]; omega
    · obtain rfl : k = st.cache.length := by omega
      have f1 := HB2.out.free 1
      have c1 := HB2.out.cell 1
      rw [HCS.out] at c1
      simp at c1
      have h1 := HB2.out.set 1 (.slice none 0 0)
      have c5 := h1.cell 5
      have f5 := h1.free 5
      rw [HCS.out] at c5
      simp at c5
      have H1 := Lib.hid h1
      clear h1
      go_wp2_with fail
      go_end0
      have h2 := H1.out.set 5 (.bool true)
      refine ⟨rfl, ⟨S, .slice none 0 0, sk, b, ?_, HS.out.done HO.out.ok (fateF_le c) true, HBB.out⟩, (HON.out.setCell HB2.out.1 (by decide) HB2.out.2.2.2.1).setCell H1.out.1 (by decide) H1.out.2.2.2.1⟩
      rw [HCS.out] at h2
      have hsl := HS.out.len
      rw [hsl, ← hlen]
      exact ⟨by simpa using h2.1, h2.2.1, World.ownsRow_nil _ _ _ _, h2.2.2.2⟩

set_option maxHeartbeats 400000 in
set_option maxRecDepth 100000 in
theorem dflush_off (h : DiskAt w base D st) (ho : st.off = true) :
    Calls Try.prog 58 #[.pointer (some ⟨D, 0, none⟩)] w fun e w' => e = .returned (.int .i64 5) ∧ DiskAt w' base D st ∧ OnlyT base progT w w' := by
  have H := Lib.hid h
  obtain ⟨S, cv, secs, b, hB, hs, hb⟩ := h
  have c5 := hB.cell 5
  simp [ho] at c5
  clear hB hs hb ho
  go_enter Try.func58, Try.ntmps58
  go_wp2
  go_ret
  exact ⟨rfl, H.out, OnlyT.refl⟩
theorem dflush_is (h : DiskAt w base D st) (hn : st.cache.length ≤ 1000000) :
    Calls Try.prog 58 #[.pointer (some ⟨D, 0, none⟩)] w fun e w' => e = .returned (.int .i64 (flushE st)) ∧ DiskAt w' base D (flushS st) ∧ OnlyT base progT w w' := by
  cases ho : st.off
  · have := dflush_on h hn ho
    simpa [flushS, flushE, ho] using this
  · have := dflush_off h ho
    simpa [flushS, flushE, ho] using this
set_option maxHeartbeats 400000 in
set_option maxRecDepth 100000 in
theorem dcrash_off (h : DiskAt w base D st) (c : Int) (ho : st.off = true) :
    Calls Try.prog 23 #[.pointer (some ⟨D, 0, none⟩), .int .u64 c] w fun e w' => e = .returned (.tuple #[]) ∧ DiskAt w' base D st ∧ OnlyT base progT w w' := by
  have H := Lib.hid h
  obtain ⟨S, cv, secs, b, hB, hs, hb⟩ := h
  have c5 := hB.cell 5
  simp [ho] at c5
  clear hB hs hb ho
  go_enter Try.func23, Try.ntmps23
  go_wp2
  refine bodyPost_ret (by simp [results, Try.results23]) rfl ⟨rfl, H.out, OnlyT.refl⟩
theorem dcrash_is (h : DiskAt w base D st) (c : Int) (hc0 : 0 ≤ c) (hc1 : c < 18446744073709551616) (hn : st.cache.length ≤ 1000000) :
    Calls Try.prog 23 #[.pointer (some ⟨D, 0, none⟩), .int .u64 c] w fun e w' => e = .returned (.tuple #[]) ∧ DiskAt w' base D (crashS st c) ∧ OnlyT base progT w w' := by
  cases ho : st.off
  · have := dcrash_on h c hc0 hc1 hn ho
    simpa [crashS, ho] using this
  · have := dcrash_off h c ho
    simpa [crashS, ho] using this

end
end Go.Proofs.Ytbdgmddlghhkjaa
